import Derived.Test.YtkgnmcekeeannabW31
/-
  The landed receiver's hearData: walked.
-/
namespace Go.Proofs.Ytkgnmcekeeannab
open Go.RowKit Go.Deep
namespace Sn
open Bs
open Ms (M It txt text ok mV mVm mBox dataOK owns_setCell)
set_option linter.unusedVariables false

def LR.badD (r : LR) (b x L : Nat) (sy : ByteArray) : Prop := sy.size ≠ r.n.size ∨ r.n.many L b = 0 ∨ r.n.many L b + r.n.spare ≤ x
def LR.began (r : LR) (o L : Nat) : LR := { r with kn := max r.kn (o + 1), ln := upd1 r.ln o L }
def LR.gotD (r : LR) (o b x L : Nat) (sy : ByteArray) : LR := if r.tk ≤ o then (r.began o L).add o b (r.n.many L b) x sy else r.began o L
theorem LRIs.below {w w1 w2 : World} {P : Nat} {r : LR} {F : Nat → Prop} (h : LRIs w w1 P r F) (hb : Below w1.heap.size w1 w2) : LRIs w w2 P r F := by
  obtain ⟨⟨K, ao, co, D, nv, sv, h⟩, t⟩ := h
  exact ⟨⟨_, ao, co, D, nv, sv, (h.below hb).mono (fun b hb' _ => hb'.imp id (fun q => ⟨q.1, by have := hb.size; omega⟩))⟩, t.below hb⟩
theorem LRIs.refl {w : World} {P : Nat} {r : LR} {F : Nat → Prop} {K : Nat → Slot} {ao : Option Addr} {co : Nat} {D : Nat → Nat} {nv sv : Nat → Nat → Value} (h : LRI w P r F K ao co D nv sv) : LRIs w w P r F := ⟨⟨K, ao, co, D, nv, sv, h.mono (fun b hb _ => .inl hb)⟩, Touch.refl _ _⟩
theorem grow_grow {F : Nat → Prop} {w w1 w2 : World} {b : Nat} (z : w.heap.size ≤ w1.heap.size) (z2 : w1.heap.size ≤ w2.heap.size) (h : grow (grow F w w1) w1 w2 b) : grow F w w2 b := by
  rcases h with (h | h) | h
  · exact .inl h
  · exact .inr ⟨h.1, by omega⟩
  · exact .inr ⟨by omega, h.2⟩
theorem touch_more {F : Nat → Prop} {w w1 w2 : World} (t : Touch w w1 F) (t2 : Touch w1 w2 (grow F w w1)) : Touch w w2 F :=
  ⟨t2.os.trans t.os, t2.tape.trans t.tape, t2.output.trans t.output, Nat.le_trans t.size t2.size, fun b hb hF => (t2.block b (by have := t.size; omega) (fun h => h.elim hF (fun q => by omega))).trans (t.block b hb hF)⟩
theorem LRIs.trans {w w1 w2 : World} {P : Nat} {r : LR} {F : Nat → Prop} (t : Touch w w1 F) (h : LRIs w1 w2 P r (grow F w w1)) : LRIs w w2 P r F := by
  obtain ⟨⟨K, ao, co, D, nv, sv, h⟩, t2⟩ := h
  exact ⟨⟨K, ao, co, D, nv, sv, h.mono (fun b hb _ => grow_grow t.size t2.size hb)⟩, touch_more t t2⟩
set_option maxHeartbeats 4000000 in
set_option maxRecDepth 100000 in
theorem lanHearData_bad (r : LR) (kd : Int) (o b x L : Nat) (sy : ByteArray) (io : Option Addr) (ni ci : Nat) (os : Int) (P : Nat) (F : Nat → Prop) (w : World) (hn : r.n.ok) (ho : o ≤ 7) (hb : b ≤ 255) (hx : x ≤ 15) (hL : 1 ≤ L) (hL2 : L ≤ 256) (hsy : sy.size ≤ 16) (hA : LRIs w w P r F) (hbad : r.badD b x L sy) :
    Calls Try.prog 67 #[.pointer (some ⟨P, 0, none⟩), mV kd o b x L sy io ni ci os] w fun e w' => e = .returned (.int .i64 6) ∧ LRIs w w' P r F := by
  have B0 : Below w.heap.size w (w.alloc (mBox kd o b x L sy io ni ci os)).drew := ((Below.refl _ _).alloc (Nat.le_refl _) _).drew
  have HS := fun W => laySymbols r.n L b W hn (by omega) (by omega)
  simp only [nmV] at HS
  have H1 := hA.below B0
  have m0 : ∀ (j : Nat) (v : Value), (#[.int .i64 kd, .int .i64 o, .int .i64 b, .int .i64 x, .int .i64 L, .string sy, .slice io ni ci, .int .i64 os] : Array Value)[j]? = some v → (w.alloc (mBox kd o b x L sy io ni ci os)).drew.cell? ⟨w.heap.size, j, none⟩ = some v := fun j v h => cell_new rfl h
  have nW : w.heap.size < (w.alloc (mBox kd o b x L sy io ni ci os)).drew.heap.size := by simp [World.drew]
  obtain ⟨wd, hwd⟩ : ∃ wd, wd = (w.alloc (mBox kd o b x L sy io ni ci os)).drew := ⟨_, rfl⟩
  rw [← hwd] at H1 m0 nW
  have HA1 : Hid (LRIs w wd P r F) := H1
  have HM0 : Hid (∀ (j : Nat) (v : Value), (#[.int .i64 kd, .int .i64 o, .int .i64 b, .int .i64 x, .int .i64 L, .string sy, .slice io ni ci, .int .i64 os] : Array Value)[j]? = some v → wd.cell? ⟨w.heap.size, j, none⟩ = some v) := m0
  obtain ⟨⟨K, ao, co, D, nv, sv, hI⟩, hT⟩ := H1
  obtain ⟨c0, c1, c2, c3, c4⟩ := hI.cells
  have m2 := m0 2 _ rfl
  have m4 := m0 4 _ rfl
  have hM := many_le r.n L b
  have HN : Hid r.n.ok := hn
  obtain ⟨_, hz16, _, hbk, hsp8⟩ := hn
  have HBAD : Hid (r.badD b x L sy) := hbad
  clear m0 B0 hA hI hT hbad c3 c4
  obtain ⟨k, hk⟩ : ∃ k, k = r.n.many L b := ⟨_, rfl⟩
  rw [← hk] at HS hM
  have HB : Hid (sy.size ≠ r.n.size ∨ k = 0 ∨ k + r.n.spare ≤ x) := by rw [hk]; exact HBAD.out
  clear hk HBAD
  go_enter Try.func67, Try.ntmps67
  go_wp2_with fail
  (refine wp_region_still_tail 8 (by kernel_rfl) (by kernel_rfl) ?_; change wpStill _ _ (World.drew _) (fun a' => wpList _ _ _ _ a' (World.drew _)) _ _; simp only [← hwd]; clear hwd; simp only [List.take_succ_cons, List.take_zero, List.drop_succ_cons, List.drop_zero]; (repeat still_step); refine wpStill_nil ?_)
  go_wp2_with fail
  refine (HS _).mono ?_
  rintro e w1 ⟨rfl, hb1⟩
  have HA2 : Hid (LRIs w w1 P r F) := HA1.out.below hb1
  have m3 : w1.cell? ⟨w.heap.size, 3, none⟩ = some (.int .i64 x) := (hb1.cell (p := ⟨w.heap.size, 3, none⟩) nW).trans (HM0.out 3 _ rfl)
  have m5 : w1.cell? ⟨w.heap.size, 5, none⟩ = some (.string sy) := (hb1.cell (p := ⟨w.heap.size, 5, none⟩) nW).trans (HM0.out 5 _ rfl)
  clear c0 c1 c2 m2 m4 HS hb1 HA1 HM0
  obtain ⟨⟨K, ao, co, D, nv, sv, hI⟩, hT⟩ := HA2.out
  obtain ⟨c0, c1, c2, c3, c4⟩ := hI.cells
  clear hI hT c1 c3 c4
  obtain ⟨z, hz⟩ : ∃ z, z = r.n.size := ⟨_, rfl⟩
  rw [← hz] at c0 HB hz16
  clear hz
  by_cases h1 : sy.size = z
  · have t1 : ((sy.size : Int) != (z : Int)) = false := by rw [h1]; simp
    by_cases h2 : k = 0
    · have t2 : ((k : Int) == 0) = true := by rw [h2]; rfl
      clear h1 h2
      go_wp2_with fail
      go_quiet (fail)
      have HF : Hid (LRIs w (w1.drewN nq) P r F) := HA2.out.below (below_drewN (Below.refl _ _) nq)
      clear HA2 c0 m3 m5
      generalize w1.drewN nq = w4 at *
      go_wp2
      go_ret
      exact ⟨rfl, HF.out⟩
    · have t2 : ((k : Int) == 0) = false := by simpa using h2
      have h3 : (k : Int) + r.n.spare ≤ x := by
        rcases HB.out with h | h | h
        · exact absurd h1 h
        · exact absurd h h2
        · omega
      clear h1 h2
      go_wp2_with fail
      go_quiet (fail)
      have HF : Hid (LRIs w (w1.drewN nq) P r F) := HA2.out.below (below_drewN (Below.refl _ _) nq)
      clear HA2 c0 m3 m5
      generalize w1.drewN nq = w4 at *
      go_wp2
      go_ret
      exact ⟨rfl, HF.out⟩
  · have t1 : ((sy.size : Int) != (z : Int)) = true := by simpa using (by omega : ¬ (sy.size : Int) = z)
    clear h1
    go_wp2_with fail
    go_quiet (fail)
    have HF : Hid (LRIs w (w1.drewN nq) P r F) := HA2.out.below (below_drewN (Below.refl _ _) nq)
    clear HA2 c0 m3 m5
    generalize w1.drewN nq = w4 at *
    go_wp2
    go_ret
    exact ⟨rfl, HF.out⟩
end Sn
end Go.Proofs.Ytkgnmcekeeannab
/-
  The landed receiver's hearData: what is not refused.
-/
namespace Go.Proofs.Ytkgnmcekeeannab
open Go.RowKit Go.Deep
namespace Sn
open Bs
open Ms (M It txt text ok mV mVm mBox dataOK owns_setCell)
set_option linter.unusedVariables false

/-- where it lies, within a call that began at w and has made a box of its own ahead of B -/
def pad (w wr : World) (F : Nat → Prop) (B : Nat) : Nat → Prop := fun x => (F x ∧ x < w.heap.size) ∨ (B ≤ x ∧ x < wr.heap.size)
structure LC (w wr : World) (P : Nat) (r : LR) (F : Nat → Prop) (B : Nat) (K : Nat → Slot) (ao : Option Addr) (co : Nat) (D : Nat → Nat) (nv sv : Nat → Nat → Value) : Prop where
  at_ : LRI wr P r (pad w wr F B) K ao co D nv sv
  t : Touch w wr F
  lo : w.heap.size < B
  hi : B ≤ wr.heap.size
section
variable {w wr w1 : World} {P : Nat} {r r1 : LR} {F : Nat → Prop} {B : Nat} {K K1 : Nat → Slot} {ao ao1 : Option Addr} {co co1 : Nat} {D D1 : Nat → Nat} {nv sv nv1 sv1 : Nat → Nat → Value}
theorem LC.start (h : LRIs w w P r F) (hb : Below w.heap.size w w1) (hz : w.heap.size < w1.heap.size) : ∃ K ao co D nv sv, LC w w1 P r F w1.heap.size K ao co D nv sv := by
  obtain ⟨⟨K, ao, co, D, nv, sv, h⟩, _⟩ := h
  have h0 := h.mono (G := fun x => F x ∧ x < w.heap.size) (fun b hb hl => ⟨hb.elim id (fun q => by omega), hl⟩)
  exact ⟨_, ao, co, D, nv, sv, (h0.below hb).mono (fun b hb _ => .inl hb), (Touch.refl w F).below hb, hz, Nat.le_refl _⟩
theorem pad_ne (h : LC w wr P r F B K ao co D nv sv) : ¬ pad w wr F B w.heap.size := fun q => by
  have := h.lo
  rcases q with q | q
  · have := q.2; omega
  · omega
theorem pad_touch (h : LC w wr P r F B K ao co D nv sv) (t : Touch wr w1 (pad w wr F B)) : Touch w w1 F :=
  ⟨t.os.trans h.t.os, t.tape.trans h.t.tape, t.output.trans h.t.output, Nat.le_trans h.t.size t.size, fun b hb hF => (t.block b (by have := h.t.size; omega) (fun q => by
    have := h.lo
    rcases q with q | q
    · exact hF q.1
    · omega)).trans (h.t.block b hb hF)⟩
theorem LC.call (h : LC w wr P r F B K ao co D nv sv) (hI : LRI w1 P r1 (grow (pad w wr F B) wr w1) K1 ao1 co1 D1 nv1 sv1) (t : Touch wr w1 (pad w wr F B)) : LC w w1 P r1 F B K1 ao1 co1 D1 nv1 sv1 :=
  ⟨hI.mono (fun b hb hl => by
    rcases hb with (q | q) | q
    · exact .inl q
    · exact .inr ⟨q.1, hl⟩
    · exact .inr ⟨by have := h.hi; omega, q.2⟩), pad_touch h t, h.lo, by have := h.hi; have := t.size; omega⟩
theorem LC.keep (h : LC w wr P r F B K ao co D nv sv) (t : Touch wr w1 (pad w wr F B)) {j : Nat} {v : Value} (hc : wr.cell? ⟨w.heap.size, j, none⟩ = some v) : w1.cell? ⟨w.heap.size, j, none⟩ = some v :=
  (World.cell?_of_block (a := ⟨w.heap.size, j, none⟩) (t.block w.heap.size (by have := h.lo; have := h.hi; omega) (pad_ne h))).trans hc
theorem LC.drop (h : LC w wr P r F B K ao co D nv sv) : LRIs w wr P r F :=
  ⟨⟨K, ao, co, D, nv, sv, h.at_.mono (fun b hb hl => by
    rcases hb with q | q
    · exact .inl q.1
    · exact .inr ⟨by have := h.lo; omega, q.2⟩)⟩, h.t⟩
theorem LC.drew (h : LC w wr P r F B K ao co D nv sv) : LC w wr.drew P r F B K ao co D nv sv := ⟨h.at_.drew, ⟨h.t.os, h.t.tape, h.t.output, h.t.size, h.t.block⟩, h.lo, h.hi⟩
theorem LC.below (h : LC w wr P r F B K ao co D nv sv) (hb : Below wr.heap.size wr w1) : ∃ K, LC w w1 P r F B K ao co D nv sv :=
  ⟨_, h.call ((h.at_.below hb).mono (fun b hb' _ => .inl hb')) (Touch.of_below hb)⟩
end
def HDOut (r : LR) (o b x L : Nat) (sy : ByteArray) (P : Nat) (F : Nat → Prop) (w : World) (e : Ending) (w' : World) : Prop :=
  ((r.ln o ≠ 0 ∧ r.ln o ≠ L) ∧ e = .returned (.int .i64 9) ∧ LRIs w w' P r F) ∨ ((r.ln o = 0 ∨ r.ln o = L) ∧ e = .returned (.int .i64 0) ∧ LRIs w w' P (r.gotD o b x L sy) F)
set_option maxHeartbeats 4000000 in
set_option maxRecDepth 100000 in
theorem lanHearData_good (r : LR) (kd : Int) (o b x L : Nat) (sy : ByteArray) (io : Option Addr) (ni ci : Nat) (os : Int) (P : Nat) (F : Nat → Prop) (w : World) (hn : r.n.ok) (ho : o ≤ 7) (hb : b ≤ 255) (hx : x ≤ 15) (hL : 1 ≤ L) (hL2 : L ≤ 256) (hsy : sy.size ≤ 16) (hA : LRIs w w P r F) (hgood : ¬ r.badD b x L sy) (hkn : r.kn ≤ 8) (hnm : ∀ b, (r.nm o b).length ≤ 8) (hsm : ∀ b, (r.sm o b).length ≤ 128) (he : r.ln o = 0 → ∀ b, r.nm o b = [] ∧ r.sm o b = []) :
    Calls Try.prog 67 #[.pointer (some ⟨P, 0, none⟩), mV kd o b x L sy io ni ci os] w fun e w' => HDOut r o b x L sy P F w e w' := by
  have B0 : Below w.heap.size w (w.alloc (mBox kd o b x L sy io ni ci os)).drew := ((Below.refl _ _).alloc (Nat.le_refl _) _).drew
  have HS := fun W => laySymbols r.n L b W hn (by omega) (by omega)
  simp only [nmV] at HS
  have m0 : ∀ (j : Nat) (v : Value), (#[.int .i64 kd, .int .i64 o, .int .i64 b, .int .i64 x, .int .i64 L, .string sy, .slice io ni ci, .int .i64 os] : Array Value)[j]? = some v → (w.alloc (mBox kd o b x L sy io ni ci os)).drew.cell? ⟨w.heap.size, j, none⟩ = some v := fun j v h => cell_new rfl h
  have nW : w.heap.size < (w.alloc (mBox kd o b x L sy io ni ci os)).drew.heap.size := by simp [World.drew]
  obtain ⟨K, ao, co, D, nv, sv, H1⟩ := LC.start hA B0 nW
  obtain ⟨wd, hwd⟩ : ∃ wd, wd = (w.alloc (mBox kd o b x L sy io ni ci os)).drew := ⟨_, rfl⟩
  rw [← hwd] at H1 m0 nW
  obtain ⟨B, hB⟩ : ∃ B, B = wd.heap.size := ⟨_, rfl⟩
  rw [← hB] at H1
  have HA1 : Hid (LC w wd P r F B K ao co D nv sv) := H1
  have HM0 : Hid (∀ (j : Nat) (v : Value), (#[.int .i64 kd, .int .i64 o, .int .i64 b, .int .i64 x, .int .i64 L, .string sy, .slice io ni ci, .int .i64 os] : Array Value)[j]? = some v → wd.cell? ⟨w.heap.size, j, none⟩ = some v) := m0
  obtain ⟨c0, c1, c2, c3, c4⟩ := H1.at_.cells
  have m2 := m0 2 _ rfl
  have m4 := m0 4 _ rfl
  have hM := many_le r.n L b
  have HN : Hid r.n.ok := hn
  obtain ⟨_, hz16, _, hbk, hsp8⟩ := hn
  have HGOOD : Hid (¬ r.badD b x L sy) := hgood
  have HE : Hid (r.ln o = 0 → ∀ b, r.nm o b = [] ∧ r.sm o b = []) := he
  have HNM : Hid (∀ b, (r.nm o b).length ≤ 8) := hnm
  have HSM : Hid (∀ b, (r.sm o b).length ≤ 128) := hsm
  clear m0 B0 hA H1 hB hgood c3 c4 he hnm hsm
  obtain ⟨k, hk⟩ : ∃ k, k = r.n.many L b := ⟨_, rfl⟩
  rw [← hk] at HS hM
  have HK : Hid (k = r.n.many L b) := hk
  have HB : Hid (sy.size = r.n.size ∧ k ≠ 0 ∧ ¬ k + r.n.spare ≤ x) := by
    unfold Hid
    rw [hk]
    refine ⟨?_, fun h => HGOOD.out (.inr (.inl h)), fun h => HGOOD.out (.inr (.inr h))⟩
    by_cases e : sy.size = r.n.size
    · exact e
    · exact absurd (.inl e) HGOOD.out
  clear hk HGOOD
  go_enter Try.func67, Try.ntmps67
  go_wp2_with fail
  (refine wp_region_still_tail 8 (by kernel_rfl) (by kernel_rfl) ?_; change wpStill _ _ (World.drew _) (fun a' => wpList _ _ _ _ a' (World.drew _)) _ _; simp only [← hwd]; clear hwd; simp only [List.take_succ_cons, List.take_zero, List.drop_succ_cons, List.drop_zero]; (repeat still_step); refine wpStill_nil ?_)
  go_wp2_with fail
  refine (HS _).mono ?_
  rintro e w1 ⟨rfl, hb1⟩
  obtain ⟨K1, H2⟩ := HA1.out.below hb1
  have HA2 : Hid (LC w w1 P r F B K1 ao co D nv sv) := H2
  have HM1 : Hid (∀ (j : Nat) (v : Value), (#[.int .i64 kd, .int .i64 o, .int .i64 b, .int .i64 x, .int .i64 L, .string sy, .slice io ni ci, .int .i64 os] : Array Value)[j]? = some v → w1.cell? ⟨w.heap.size, j, none⟩ = some v) := fun j v h => (hb1.cell (p := ⟨w.heap.size, j, none⟩) nW).trans (HM0.out j v h)
  have nW1 : w.heap.size < w1.heap.size := by have := hb1.size; omega
  have m3 := HM1.out 3 _ rfl
  have m5 := HM1.out 5 _ rfl
  clear c0 c1 c2 m2 m4 HS hb1 HA1 HM0 nW
  obtain ⟨c0, c1, c2, c3, c4⟩ := H2.at_.cells
  clear H2 c1 c3 c4
  obtain ⟨z, hz⟩ : ∃ z, z = r.n.size := ⟨_, rfl⟩
  rw [← hz] at c0 HB hz16
  clear hz
  obtain ⟨h1, h2, h3⟩ := HB.out
  have t1 : ((sy.size : Int) != (z : Int)) = false := by rw [h1]; simp
  have t2 : ((k : Int) == 0) = false := by simpa using h2
  have t3 : (x : Int) < (k : Int) + r.n.spare := by omega
  have hk0 : 0 < k := by omega
  clear h1 h2 h3 HB
  go_wp2_with fail
  go_quiet (fail)
  obtain ⟨K4, H4⟩ := HA2.out.below (below_drewN (Below.refl _ _) nq)
  have HA4 : Hid (LC w (w1.drewN nq) P r F B K4 ao co D nv sv) := H4
  have HM4 : Hid (∀ (j : Nat) (v : Value), (#[.int .i64 kd, .int .i64 o, .int .i64 b, .int .i64 x, .int .i64 L, .string sy, .slice io ni ci, .int .i64 os] : Array Value)[j]? = some v → (w1.drewN nq).cell? ⟨w.heap.size, j, none⟩ = some v) := fun j v hv => cell_drawn (HM1.out j v hv)
  have nW4 : w.heap.size < (w1.drewN nq).heap.size := nW1
  clear HA2 HM1 nW1 c0 c2 m3 m5 H4
  generalize w1.drewN nq = w4 at *
  have m1 := HM4.out 1 _ rfl
  have m4 := HM4.out 4 _ rfl
  have HLE := lanLength r o P _ K4 ao co D nv sv w4 hkn (by omega) HA4.out.at_
  go_wp2_with fail
  refine HLE.mono ?_
  rintro e w5 ⟨rfl, rfl⟩
  clear HLE
  obtain ⟨N, hN⟩ : ∃ N, N = r.ln o := ⟨_, rfl⟩
  have HNo : Hid (N = r.ln o) := hN
  rw [← hN]
  clear hN
  by_cases hcl : N ≠ 0 ∧ N ≠ L
  · obtain ⟨g1, g2⟩ := hcl
    have t1 : ((N : Int) != 0) = true := by simpa using (by omega : ¬ (N : Int) = 0)
    have t2 : ((N : Int) != (L : Int)) = true := by simpa using (by omega : ¬ (N : Int) = L)
    have HG : Hid (r.ln o ≠ 0 ∧ r.ln o ≠ L) := by rw [← HNo.out]; exact ⟨g1, g2⟩
    clear g1 g2
    go_wp2_with fail
    go_ret
    exact .inl ⟨HG.out, rfl, HA4.out.drop⟩
  · have HG : Hid (r.ln o = 0 ∨ r.ln o = L) := by unfold Hid; rw [← HNo.out]; omega
    have HKO := lanKnowOf r (o + 1) P _ K4 ao co D nv sv w5 hkn (by omega) HA4.out.at_
    have hN2 : N = 0 ∨ N = L := by omega
    have HKM : Hid (b < r.n.blocks L) := by
      unfold Hid
      have h := many_cases r.n HN.out L b
      rw [← HK.out] at h
      by_cases q : b < r.n.blocks L
      · exact q
      · rw [if_neg q] at h; omega
    clear hcl
    rcases hN2 with hN0 | hN0
    · subst hN0
      go_wp2_with fail
      refine HKO.mono ?_
      rintro e w6 ⟨rfl, ⟨⟨K6, ao6, co6, hI6⟩, hT6⟩⟩
      have HA6 : Hid (LC w w6 P { r with kn := max r.kn (o + 1) } F B K6 ao6 co6 D nv sv) := HA4.out.call hI6 hT6
      have HM6 : Hid (∀ (j : Nat) (v : Value), (#[.int .i64 kd, .int .i64 o, .int .i64 b, .int .i64 x, .int .i64 L, .string sy, .slice io ni ci, .int .i64 os] : Array Value)[j]? = some v → w6.cell? ⟨w.heap.size, j, none⟩ = some v) := fun j v h => HA4.out.keep hT6 (HM4.out j v h)
      have nW6 : w.heap.size < w6.heap.size := by have := hT6.size; omega
      clear HKO hI6 hT6 HA4 HM4 nW4 m1 m4
      have m1 := HM6.out 1 _ rfl
      have m4 := HM6.out 4 _ rfl
      have HBE := lanBegin { r with kn := max r.kn (o + 1) } o L P _ K6 ao6 co6 D nv sv w6 HN.out (by show max r.kn (o + 1) ≤ 8; omega) (by show o < max r.kn (o + 1); omega) HNo.out.symm hL hL2 (fun b => (HE.out HNo.out.symm b).1) (fun b => (HE.out HNo.out.symm b).2) HA6.out.at_
      go_wp2_with fail
      refine HBE.mono ?_
      rintro e w7 ⟨rfl, ⟨⟨K7, ao7, co7, D7, nv7, sv7, hI7⟩, hT7⟩⟩
      have HA7 : Hid (LC w w7 P (r.began o L) F B K7 ao7 co7 D7 nv7 sv7) := HA6.out.call hI7 hT7
      have HM7 : Hid (∀ (j : Nat) (v : Value), (#[.int .i64 kd, .int .i64 o, .int .i64 b, .int .i64 x, .int .i64 L, .string sy, .slice io ni ci, .int .i64 os] : Array Value)[j]? = some v → w7.cell? ⟨w.heap.size, j, none⟩ = some v) := fun j v h => HA6.out.keep hT7 (HM6.out j v h)
      have nW7 : w.heap.size < w7.heap.size := by have := hT7.size; omega
      clear HBE hI7 hT7 HA6 HM6 nW6 m1 m4
      obtain ⟨Kx, aox, cox, Dx, nvx, svx, HX0⟩ : ∃ Kx aox cox Dx nvx svx, Hid (LC w w7 P (r.began o L) F B Kx aox cox Dx nvx svx) := ⟨_, _, _, _, _, _, HA7⟩
      clear HA7
      obtain ⟨v1, hv1⟩ : ∃ v1, v1 = w7.drew := ⟨_, rfl⟩
      have HX : Hid (LC w v1 P (r.began o L) F B Kx aox cox Dx nvx svx) := by rw [hv1]; exact HX0.out.drew
      have HM8 : Hid (∀ (j : Nat) (v : Value), (#[.int .i64 kd, .int .i64 o, .int .i64 b, .int .i64 x, .int .i64 L, .string sy, .slice io ni ci, .int .i64 os] : Array Value)[j]? = some v → v1.cell? ⟨w.heap.size, j, none⟩ = some v) := by rw [hv1]; exact HM7.out
      obtain ⟨g, rfl, hgl, _, s0, s1, _⟩ := HX.out.at_.slot (o := o) (by show o < max r.kn (o + 1); omega)
      obtain ⟨c0, c1, c2, c3, c4⟩ := HX.out.at_.cells
      have c3' : v1.cell? ⟨P, 3, none⟩ = some (.slice (some ⟨g, 0, none⟩) (max r.kn (o + 1)) cox) := c3
      have elo : (r.began o L).ln o = L := by simp [LR.began, upd1]
      have ebk : (r.began o L).bks o = r.n.blocks L := by unfold LR.bks; rw [elo]; rfl
      have m1 := HM8.out 1 _ rfl
      have m2 := HM8.out 2 _ rfl
      have hB256 := blocks_le r.n HN.out L hL2
      obtain ⟨Q, hQ⟩ : ∃ Q, Q = max r.kn (o + 1) := ⟨_, rfl⟩
      have hoQ : o < Q := by omega
      have hQ8 : Q ≤ 8 := by omega
      rw [← hQ] at c3'
      clear c0 c1 c2 c3 c4 s0 hQ HX0 HM7 nW7
      by_cases htk : r.tk ≤ o
      · have HGT : Hid (r.gotD o b x L sy = (r.began o L).add o b k x sy) := by unfold Hid LR.gotD; rw [if_pos htk, HK.out]
        have eg : gval (r.began o L) Dx o = .slice (some ⟨Dx o, 0, none⟩) (r.n.blocks L) (r.n.blocks L) := by
          unfold gval
          rw [if_pos ⟨by rw [elo]; omega, htk⟩, ebk]
        rw [eg] at s1
        have hlive : (r.began o L).live o := ⟨by show o < max r.kn (o + 1); omega, by rw [elo]; omega, htk⟩
        obtain ⟨v2, hv2⟩ : ∃ v2, v2 = v1.drew := ⟨_, rfl⟩
        have HX2 : Hid (LC w v2 P (r.began o L) F B Kx (some ⟨g, 0, none⟩) cox Dx nvx svx) := by rw [hv2]; exact HX.out.drew
        have HM9 : Hid (∀ (j : Nat) (v : Value), (#[.int .i64 kd, .int .i64 o, .int .i64 b, .int .i64 x, .int .i64 L, .string sy, .slice io ni ci, .int .i64 os] : Array Value)[j]? = some v → v2.cell? ⟨w.heap.size, j, none⟩ = some v) := by rw [hv2]; exact HM8.out
        have HAD := lanAdd (r.began o L) o b k x sy P _ Kx _ cox Dx nvx svx v2 (by omega) (HNM.out b) (HSM.out b) hsy hlive (by rw [ebk]; exact HKM.out) HX2.out.at_
        obtain ⟨Bk, hBk⟩ : ∃ Bk, Bk = r.n.blocks L := ⟨_, rfl⟩
        have hbB : b < Bk := by rw [hBk]; exact HKM.out
        rw [← hBk] at s1 hB256
        clear hBk eg elo ebk htk hlive
        go_wp2_with fail
        (refine wp_region_still_tail 9 (by kernel_rfl) (by kernel_rfl) ?_; change wpStill _ _ (World.drew _) (fun a' => wpList _ _ _ _ a' (World.drew _)) _ _; simp only [← hv1]; clear hv1; simp only [List.take_succ_cons, List.take_zero, List.drop_succ_cons, List.drop_zero]; (repeat still_step); refine wpStill_nil ?_)
        go_wp2_with fail
        have q2 := HM9.out 2 _ rfl
        have q3 := HM9.out 3 _ rfl
        have q5 := HM9.out 5 _ rfl
        (refine wp_region_still_tail 9 (by kernel_rfl) (by kernel_rfl) ?_; change wpStill _ _ (World.drew _) (fun a' => wpList _ _ _ _ a' (World.drew _)) _ _; simp only [← hv2]; clear hv2; simp only [List.take_succ_cons, List.take_zero, List.drop_succ_cons, List.drop_zero]; (repeat still_step); refine wpStill_nil ?_)
        go_wp2_with fail
        refine HAD.mono ?_
        rintro e w9 ⟨rfl, ⟨⟨K9, ao9, co9, nv9, sv9, hI9⟩, hT9⟩⟩
        have HF : Hid (LRIs w w9 P (r.gotD o b x L sy) F) := by unfold Hid; rw [HGT.out]; exact (HX2.out.call hI9 hT9).drop
        clear HAD hI9 hT9 HX2 HX HM8 HM9 s1 m1 m2 c3' q2 q3 q5
        go_wp2_with fail
        go_ret
        exact .inr ⟨HG.out, rfl, HF.out⟩
      · have HGT : Hid (r.gotD o b x L sy = r.began o L) := by unfold Hid LR.gotD; rw [if_neg htk]
        have eg : gval (r.began o L) Dx o = .slice none 0 0 := by
          unfold gval
          rw [if_neg (fun q => htk q.2)]
        rw [eg] at s1
        clear eg elo ebk htk
        have hb0 : ¬ ((b : Int) < 0) := by omega
        go_wp2_with fail
        (refine wp_region_still_tail 9 (by kernel_rfl) (by kernel_rfl) ?_; change wpStill _ _ (World.drew _) (fun a' => wpList _ _ _ _ a' (World.drew _)) _ _; simp only [← hv1]; clear hv1; simp only [List.take_succ_cons, List.take_zero, List.drop_succ_cons, List.drop_zero]; (repeat still_step); refine wpStill_nil ?_)
        go_wp2_with fail
        go_ret
        exact .inr ⟨HG.out, rfl, by rw [HGT.out]; exact HX.out.drop⟩
    · have t1 : ((N : Int) != 0) = true := by simpa using (by omega : ¬ (N : Int) = 0)
      have t2 : ((N : Int) != (L : Int)) = false := by rw [hN0]; simp
      have t4 : ((N : Int) == 0) = false := by simpa using (by omega : ¬ (N : Int) = 0)
      go_wp2_with fail
      refine HKO.mono ?_
      rintro e w6 ⟨rfl, ⟨⟨K6, ao6, co6, hI6⟩, hT6⟩⟩
      have HA6 : Hid (LC w w6 P { r with kn := max r.kn (o + 1) } F B K6 ao6 co6 D nv sv) := HA4.out.call hI6 hT6
      have HM6 : Hid (∀ (j : Nat) (v : Value), (#[.int .i64 kd, .int .i64 o, .int .i64 b, .int .i64 x, .int .i64 L, .string sy, .slice io ni ci, .int .i64 os] : Array Value)[j]? = some v → w6.cell? ⟨w.heap.size, j, none⟩ = some v) := fun j v h => HA4.out.keep hT6 (HM4.out j v h)
      have nW6 : w.heap.size < w6.heap.size := by have := hT6.size; omega
      clear HKO hI6 hT6 HA4 HM4 nW4 m1 m4
      have m1 := HM6.out 1 _ rfl
      have m4 := HM6.out 4 _ rfl
      have e : r.began o L = { r with kn := max r.kn (o + 1) } := by
        unfold LR.began
        have : upd1 r.ln o L = r.ln := by
          funext i
          unfold upd1
          by_cases q : i = o
          · rw [if_pos q, q, ← HNo.out, hN0]
          · rw [if_neg q]
        rw [this]
      obtain ⟨w7, hw7⟩ : ∃ w7, w7 = w6 := ⟨_, rfl⟩
      have HA7 : Hid (LC w w7 P (r.began o L) F B K6 ao6 co6 D nv sv) := by
        unfold Hid
        rw [e, hw7]; exact HA6.out
      have HM7 : Hid (∀ (j : Nat) (v : Value), (#[.int .i64 kd, .int .i64 o, .int .i64 b, .int .i64 x, .int .i64 L, .string sy, .slice io ni ci, .int .i64 os] : Array Value)[j]? = some v → w7.cell? ⟨w.heap.size, j, none⟩ = some v) := by rw [hw7]; exact HM6.out
      have nW7 : w.heap.size < w7.heap.size := by rw [hw7]; exact nW6
      clear HA6 m1 m4 e HM6 nW6
      rw [← hw7]
      clear hw7
      obtain ⟨Kx, aox, cox, Dx, nvx, svx, HX0⟩ : ∃ Kx aox cox Dx nvx svx, Hid (LC w w7 P (r.began o L) F B Kx aox cox Dx nvx svx) := ⟨_, _, _, _, _, _, HA7⟩
      clear HA7
      obtain ⟨v1, hv1⟩ : ∃ v1, v1 = w7.drew := ⟨_, rfl⟩
      have HX : Hid (LC w v1 P (r.began o L) F B Kx aox cox Dx nvx svx) := by rw [hv1]; exact HX0.out.drew
      have HM8 : Hid (∀ (j : Nat) (v : Value), (#[.int .i64 kd, .int .i64 o, .int .i64 b, .int .i64 x, .int .i64 L, .string sy, .slice io ni ci, .int .i64 os] : Array Value)[j]? = some v → v1.cell? ⟨w.heap.size, j, none⟩ = some v) := by rw [hv1]; exact HM7.out
      obtain ⟨g, rfl, hgl, _, s0, s1, _⟩ := HX.out.at_.slot (o := o) (by show o < max r.kn (o + 1); omega)
      obtain ⟨c0, c1, c2, c3, c4⟩ := HX.out.at_.cells
      have c3' : v1.cell? ⟨P, 3, none⟩ = some (.slice (some ⟨g, 0, none⟩) (max r.kn (o + 1)) cox) := c3
      have elo : (r.began o L).ln o = L := by simp [LR.began, upd1]
      have ebk : (r.began o L).bks o = r.n.blocks L := by unfold LR.bks; rw [elo]; rfl
      have m1 := HM8.out 1 _ rfl
      have m2 := HM8.out 2 _ rfl
      have hB256 := blocks_le r.n HN.out L hL2
      obtain ⟨Q, hQ⟩ : ∃ Q, Q = max r.kn (o + 1) := ⟨_, rfl⟩
      have hoQ : o < Q := by omega
      have hQ8 : Q ≤ 8 := by omega
      rw [← hQ] at c3'
      clear c0 c1 c2 c3 c4 s0 hQ HX0 HM7 nW7
      by_cases htk : r.tk ≤ o
      · have HGT : Hid (r.gotD o b x L sy = (r.began o L).add o b k x sy) := by unfold Hid LR.gotD; rw [if_pos htk, HK.out]
        have eg : gval (r.began o L) Dx o = .slice (some ⟨Dx o, 0, none⟩) (r.n.blocks L) (r.n.blocks L) := by
          unfold gval
          rw [if_pos ⟨by rw [elo]; omega, htk⟩, ebk]
        rw [eg] at s1
        have hlive : (r.began o L).live o := ⟨by show o < max r.kn (o + 1); omega, by rw [elo]; omega, htk⟩
        obtain ⟨v2, hv2⟩ : ∃ v2, v2 = v1.drew := ⟨_, rfl⟩
        have HX2 : Hid (LC w v2 P (r.began o L) F B Kx (some ⟨g, 0, none⟩) cox Dx nvx svx) := by rw [hv2]; exact HX.out.drew
        have HM9 : Hid (∀ (j : Nat) (v : Value), (#[.int .i64 kd, .int .i64 o, .int .i64 b, .int .i64 x, .int .i64 L, .string sy, .slice io ni ci, .int .i64 os] : Array Value)[j]? = some v → v2.cell? ⟨w.heap.size, j, none⟩ = some v) := by rw [hv2]; exact HM8.out
        have HAD := lanAdd (r.began o L) o b k x sy P _ Kx _ cox Dx nvx svx v2 (by omega) (HNM.out b) (HSM.out b) hsy hlive (by rw [ebk]; exact HKM.out) HX2.out.at_
        obtain ⟨Bk, hBk⟩ : ∃ Bk, Bk = r.n.blocks L := ⟨_, rfl⟩
        have hbB : b < Bk := by rw [hBk]; exact HKM.out
        rw [← hBk] at s1 hB256
        clear hBk eg elo ebk htk hlive
        go_wp2_with fail
        (refine wp_region_still_tail 9 (by kernel_rfl) (by kernel_rfl) ?_; change wpStill _ _ (World.drew _) (fun a' => wpList _ _ _ _ a' (World.drew _)) _ _; simp only [← hv1]; clear hv1; simp only [List.take_succ_cons, List.take_zero, List.drop_succ_cons, List.drop_zero]; (repeat still_step); refine wpStill_nil ?_)
        go_wp2_with fail
        have q2 := HM9.out 2 _ rfl
        have q3 := HM9.out 3 _ rfl
        have q5 := HM9.out 5 _ rfl
        (refine wp_region_still_tail 9 (by kernel_rfl) (by kernel_rfl) ?_; change wpStill _ _ (World.drew _) (fun a' => wpList _ _ _ _ a' (World.drew _)) _ _; simp only [← hv2]; clear hv2; simp only [List.take_succ_cons, List.take_zero, List.drop_succ_cons, List.drop_zero]; (repeat still_step); refine wpStill_nil ?_)
        go_wp2_with fail
        refine HAD.mono ?_
        rintro e w9 ⟨rfl, ⟨⟨K9, ao9, co9, nv9, sv9, hI9⟩, hT9⟩⟩
        have HF : Hid (LRIs w w9 P (r.gotD o b x L sy) F) := by unfold Hid; rw [HGT.out]; exact (HX2.out.call hI9 hT9).drop
        clear HAD hI9 hT9 HX2 HX HM8 HM9 s1 m1 m2 c3' q2 q3 q5
        go_wp2_with fail
        go_ret
        exact .inr ⟨HG.out, rfl, HF.out⟩
      · have HGT : Hid (r.gotD o b x L sy = r.began o L) := by unfold Hid LR.gotD; rw [if_neg htk]
        have eg : gval (r.began o L) Dx o = .slice none 0 0 := by
          unfold gval
          rw [if_neg (fun q => htk q.2)]
        rw [eg] at s1
        clear eg elo ebk htk
        have hb0 : ¬ ((b : Int) < 0) := by omega
        go_wp2_with fail
        (refine wp_region_still_tail 9 (by kernel_rfl) (by kernel_rfl) ?_; change wpStill _ _ (World.drew _) (fun a' => wpList _ _ _ _ a' (World.drew _)) _ _; simp only [← hv1]; clear hv1; simp only [List.take_succ_cons, List.take_zero, List.drop_succ_cons, List.drop_zero]; (repeat still_step); refine wpStill_nil ?_)
        go_wp2_with fail
        go_ret
        exact .inr ⟨HG.out, rfl, by rw [HGT.out]; exact HX.out.drop⟩
end Sn
end Go.Proofs.Ytkgnmcekeeannab
