import Derived.Test.YtkgnmcekeeannaaLT
import Derived.Test.YtkgnmcekeeannaaMK
import Derived.Test.YtkgnmcekeeannaaNG
namespace Go.Proofs.Ytkgnmcekeeannaa
open Go.RowKit Go.Deep
namespace Ms
open Bs
set_option linter.unusedVariables false

def RO (m : M) (E : Int) (e : Ending) (W w' : World) : Prop := ∃ ao cap, e = .returned (.tuple #[mVm m ao cap, .int .i64 E]) ∧ w'.ownsRow W.heap.size 40 3 (.slice ao m.items.length cap) m.items.length (icells (itF m.items) m.items.length) ∧ Below W.heap.size W w'
theorem items_le {m : M} (h : ok m) : m.items.length ≤ 8 := by
  rcases h with ⟨_, h⟩ | ⟨_, h⟩ | ⟨_, h⟩
  · rw [h.2.2.2.2.2.2.2.2.2.2.1]; exact Nat.zero_le _
  · exact h.2.2.2.1
  · rw [h.2.2.2]; exact Nat.zero_le _
theorem rd_both (s : ByteArray) (hs : s.size ≤ 1048576) : ∃ m E, m.items.length ≤ 8 ∧ (∀ W, Calls Try.prog 26 #[.string s] W fun e w' => RO m E e W w') ∧ (∀ W, Calls Try.prog 27 #[.string s] W fun e w' => RO m E e W w') := by
  by_cases h : ∃ m, Tells s m
  · obtain ⟨m, hm⟩ := h
    have one : ∀ {W w' : World} {e : Ending}, ReadOut s e W w' ∧ Below W.heap.size W w' → RO m 0 e W w' := by
      rintro W w' e ⟨ho, hb⟩
      rcases ho with ⟨m', ao, cap, ht, rfl, hown⟩ | ⟨hno, _⟩
      · obtain rfl : m' = m := (tells_lan ht).symm.trans (tells_lan hm)
        exact ⟨ao, cap, rfl, hown, hb⟩
      · exact absurd hm (hno m)
    exact ⟨m, 0, items_le hm.1, fun W => (rRead s W hs).mono fun e w' h => one h, fun W => (refRead s W hs).mono fun e w' h => one h⟩
  · have one : ∀ {W w' : World} {e : Ending}, ReadOut s e W w' ∧ Below W.heap.size W w' → RO zeroM 6 e W w' := by
      rintro W w' e ⟨ho, hb⟩
      rcases ho with ⟨m', ao, cap, ht, rfl, hown⟩ | ⟨hno, rfl⟩
      · exact absurd ⟨m', ht⟩ h
      · exact ⟨none, 0, rfl, World.ownsRow_nil _ _ _ _, hb⟩
    exact ⟨zeroM, 6, Nat.zero_le _, fun W => (rRead s W hs).mono fun e w' h => one h, fun W => (refRead s W hs).mono fun e w' h => one h⟩

/-- a message is stored over another -/
theorem row_all {w : World} {b : Nat} {f : Nat → Value} (kd ob bl nu le : Int) (sy : ByteArray) (v : Value) (os : Int) (h : w.rowIs b 38 8 f) :
    ((((((((w.setCell ⟨b, 0, none⟩ (.int .i64 kd)).setCell ⟨b, 1, none⟩ (.int .i64 ob)).setCell ⟨b, 2, none⟩ (.int .i64 bl)).setCell ⟨b, 3, none⟩ (.int .i64 nu)).setCell ⟨b, 4, none⟩ (.int .i64 le)).setCell ⟨b, 5, none⟩ (.string sy)).setCell ⟨b, 6, none⟩ v).setCell ⟨b, 7, none⟩ (.int .i64 os)).rowIs b 38 8 (mRow kd ob bl nu le sy v os) := by
  refine ((((((((h.set 0 _).set 1 _).set 2 _).set 3 _).set 4 _).set 5 _).set 6 _).set 7 _).congr (fun j hj => ?_)
  match j, hj with
  | 0, _ => rfl
  | 1, _ => rfl
  | 2, _ => rfl
  | 3, _ => rfl
  | 4, _ => rfl
  | 5, _ => rfl
  | 6, _ => rfl
  | 7, _ => rfl
theorem all_other (w : World) (b : Nat) (v0 v1 v2 v3 v4 v5 v6 v7 : Value) (k : Nat) (hk : k ≠ b) : ((((((((w.setCell ⟨b, 0, none⟩ v0).setCell ⟨b, 1, none⟩ v1).setCell ⟨b, 2, none⟩ v2).setCell ⟨b, 3, none⟩ v3).setCell ⟨b, 4, none⟩ v4).setCell ⟨b, 5, none⟩ v5).setCell ⟨b, 6, none⟩ v6).setCell ⟨b, 7, none⟩ v7).heap[k]? = w.heap[k]? := by
  rw [heap_setCell_other _ _ _ _ hk, heap_setCell_other _ _ _ _ hk, heap_setCell_other _ _ _ _ hk, heap_setCell_other _ _ _ _ hk, heap_setCell_other _ _ _ _ hk, heap_setCell_other _ _ _ _ hk, heap_setCell_other _ _ _ _ hk, heap_setCell_other _ _ _ _ hk]
theorem all_size (w : World) (b : Nat) (v0 v1 v2 v3 v4 v5 v6 v7 : Value) : ((((((((w.setCell ⟨b, 0, none⟩ v0).setCell ⟨b, 1, none⟩ v1).setCell ⟨b, 2, none⟩ v2).setCell ⟨b, 3, none⟩ v3).setCell ⟨b, 4, none⟩ v4).setCell ⟨b, 5, none⟩ v5).setCell ⟨b, 6, none⟩ v6).setCell ⟨b, 7, none⟩ v7).heap.size = w.heap.size := by simp
theorem all_below {N : Nat} {w0 w : World} {b : Nat} (v0 v1 v2 v3 v4 v5 v6 v7 : Value) (h : Below N w0 w) (hb : N ≤ b) : Below N w0 ((((((((w.setCell ⟨b, 0, none⟩ v0).setCell ⟨b, 1, none⟩ v1).setCell ⟨b, 2, none⟩ v2).setCell ⟨b, 3, none⟩ v3).setCell ⟨b, 4, none⟩ v4).setCell ⟨b, 5, none⟩ v5).setCell ⟨b, 6, none⟩ v6).setCell ⟨b, 7, none⟩ v7) :=
  (((((((h.setCell hb _).setCell hb _).setCell hb _).setCell hb _).setCell hb _).setCell hb _).setCell hb _).setCell hb _
theorem owns_block {w w' : World} {base e size n : Nat} {v : Value} {xs : List Value} (h : w.ownsRow base e size v n xs) (hb : ∀ b, v.ownBlock = some b → w'.heap[b]? = w.heap[b]?) : w'.ownsRow base e size v n xs := by
  refine ⟨h.1, ?_⟩
  rcases h.2 with hn | ⟨g, cap, cur, rfl, hbg, hg, rest⟩
  · exact .inl hn
  · exact .inr ⟨g, cap, cur, rfl, hbg, (hb g rfl).trans hg, rest⟩
def Keep (w0 w : World) (P : Nat) : Prop := w0.heap.size ≤ w.heap.size ∧ ∀ b, b < w0.heap.size → b ≠ P → w.heap[b]? = w0.heap[b]?
theorem Keep.below {w0 w w' : World} {P : Nat} (h : Keep w0 w P) (hb : Below w.heap.size w w') : Keep w0 w' P := ⟨Nat.le_trans h.1 hb.size, fun b h1 h2 => (hb.block b (by have := h.1; omega)).trans (h.2 b h1 h2)⟩
theorem Keep.alloc {w0 w : World} {P : Nat} (h : Keep w0 w P) (o : Obj) : Keep w0 (w.alloc o) P := ⟨by simp; have := h.1; omega, fun b h1 h2 => (Below.heap_alloc w o b (by have := h.1; omega)).trans (h.2 b h1 h2)⟩
theorem Keep.grown {w0 w w' : World} {P : Nat} {row : Option Nat} (h : Keep w0 w P) (hg : w.grownBy w' row) (hr : ∀ b, row = some b → w0.heap.size ≤ b) : Keep w0 w' P :=
  ⟨Nat.le_trans h.1 hg.size, fun b h1 h2 => (hg.block b (by have := h.1; omega) (fun e => by have := hr b e.symm; omega)).trans (h.2 b h1 h2)⟩
theorem Keep.all {w0 w : World} {P : Nat} (h : Keep w0 w P) (v0 v1 v2 v3 v4 v5 v6 v7 : Value) : Keep w0 ((((((((w.setCell ⟨P, 0, none⟩ v0).setCell ⟨P, 1, none⟩ v1).setCell ⟨P, 2, none⟩ v2).setCell ⟨P, 3, none⟩ v3).setCell ⟨P, 4, none⟩ v4).setCell ⟨P, 5, none⟩ v5).setCell ⟨P, 6, none⟩ v6).setCell ⟨P, 7, none⟩ v7) P :=
  ⟨by rw [all_size]; exact h.1, fun b h1 h2 => (all_other w P v0 v1 v2 v3 v4 v5 v6 v7 b h2).trans (h.2 b h1 h2)⟩

set_option maxRecDepth 100000 in
set_option maxHeartbeats 8000000 in
theorem reads_said (text other : ByteArray) (w : World) (h1 : text.size ≤ 1048576) (h2 : other.size ≤ 1048576) :
    Calls Try.prog 8 #[.string text, .string other] w fun e w' => e = .returned (.bool true) ∧ Below w.heap.size w w' := by
  obtain ⟨m, E, hm8, RL, RR⟩ := rd_both text h1
  obtain ⟨m2, E2, hm28, RL2, RR2⟩ := rd_both other h2
  have tE : (E != E) = false := by simp
  have tE2 : (E2 != E2) = false := by simp
  have uE : (E == E) = true := by simp
  have hmx : m.items.length ≤ maxLen := by unfold maxLen; omega
  have hmx2 : m2.items.length ≤ maxLen := by unfold maxLen; omega
  obtain ⟨N, hN⟩ : ∃ N, N = w.heap.size := ⟨_, rfl⟩
  rw [← hN]
  have H1 := RL w
  unfold RO at H1
  rw [← hN] at H1
  clear h1 h2
  go_enter Try.func8, Try.ntmps8
  go_wp2_with fail
  refine H1.mono ?_
  rintro e w1 ⟨ao, ca, rfl, hown1, hb1⟩
  clear H1
  have hz1 : N ≤ w1.heap.size := by have := hb1.size; omega
  obtain ⟨P1, hP1⟩ : ∃ P, P = w1.heap.size := ⟨_, rfl⟩
  have own1P : ∀ b, (Value.slice ao m.items.length ca).ownBlock = some b → N ≤ b ∧ b < P1 := fun b hb => by have := hown1.lt b hb; omega
  have RP1 : (w1.alloc (mBox m.kind m.obj m.blk m.num m.len m.sym ao m.items.length ca m.objs)).rowIs P1 38 8 (mRow m.kind m.obj m.blk m.num m.len m.sym (.slice ao m.items.length ca) m.objs) := mRow_new hP1 _ _ _ _ _ _ _ _
  have O1 := hown1.alloc (mBox m.kind m.obj m.blk m.num m.len m.sym ao m.items.length ca m.objs)
  have BW1 : Below N w (w1.alloc (mBox m.kind m.obj m.blk m.num m.len m.sym ao m.items.length ca m.objs)) := hb1.alloc hz1 _
  have zW1 : (w1.alloc (mBox m.kind m.obj m.blk m.num m.len m.sym ao m.items.length ca m.objs)).heap.size = P1 + 1 := by simp; omega
  have H2 := RR (w1.alloc (mBox m.kind m.obj m.blk m.num m.len m.sym ao m.items.length ca m.objs))
  unfold RO at H2
  rw [zW1] at H2
  rw [← hP1] at hz1
  clear hown1 hb1
  have hP1' : w1.heap.size = P1 := hP1.symm
  clear hP1
  go_wp2_with fail
  refine H2.mono ?_
  rintro e w2 ⟨bo, cb, rfl, hown2, hb2⟩
  clear H2
  have RP1b := RP1.of_block (hb2.block P1 (by omega))
  have O1b := owns_block O1 (fun b hb => hb2.block b (by have := own1P b hb; omega))
  have BW2 : Below N w w2 := BW1.trans (hb2.mono (by omega))
  have z2 : P1 + 1 ≤ w2.heap.size := by have := hb2.size; omega
  obtain ⟨P2, hP2⟩ : ∃ P, P = w2.heap.size := ⟨_, rfl⟩
  have own2P : ∀ b, (Value.slice bo m.items.length cb).ownBlock = some b → P1 + 1 ≤ b ∧ b < P2 := fun b hb => by have := hown2.lt b hb; omega
  clear RP1 O1 BW1 hb2 zW1
  have RP1c := RP1b.of_block (Below.heap_alloc w2 (mBox m.kind m.obj m.blk m.num m.len m.sym bo m.items.length cb m.objs) P1 (by omega))
  have RP2c : (w2.alloc (mBox m.kind m.obj m.blk m.num m.len m.sym bo m.items.length cb m.objs)).rowIs P2 38 8 (mRow m.kind m.obj m.blk m.num m.len m.sym (.slice bo m.items.length cb) m.objs) := mRow_new hP2 _ _ _ _ _ _ _ _
  have O1c := O1b.alloc (mBox m.kind m.obj m.blk m.num m.len m.sym bo m.items.length cb m.objs)
  have O2c := hown2.alloc (mBox m.kind m.obj m.blk m.num m.len m.sym bo m.items.length cb m.objs)
  have BW3 : Below N w (w2.alloc (mBox m.kind m.obj m.blk m.num m.len m.sym bo m.items.length cb m.objs)) := BW2.alloc (by omega) _
  have zc : (w2.alloc (mBox m.kind m.obj m.blk m.num m.len m.sym bo m.items.length cb m.objs)).heap.size = P2 + 1 := by simp; omega
  have hP12 : P1 < P2 := by omega
  have hP2' : w2.heap.size = P2 := hP2.symm
  clear RP1b O1b hown2 BW2 z2 hP2
  go_upto_region 3 with fail
  generalize w2.alloc (mBox m.kind m.obj m.blk m.num m.len m.sym bo m.items.length cb m.objs) = W2 at *
  have x0 : W2.cell? ⟨P1, 0, none⟩ = some (.int .i64 m.kind) := RP1c.cell (by decide)
  have x1 : W2.cell? ⟨P1, 1, none⟩ = some (.int .i64 m.obj) := RP1c.cell (by decide)
  have x2 : W2.cell? ⟨P1, 2, none⟩ = some (.int .i64 m.blk) := RP1c.cell (by decide)
  have x3 : W2.cell? ⟨P1, 3, none⟩ = some (.int .i64 m.num) := RP1c.cell (by decide)
  have x4 : W2.cell? ⟨P1, 4, none⟩ = some (.int .i64 m.len) := RP1c.cell (by decide)
  have x5 : W2.cell? ⟨P1, 5, none⟩ = some (.string m.sym) := RP1c.cell (by decide)
  have x6 : W2.cell? ⟨P1, 6, none⟩ = some (.slice ao m.items.length ca) := RP1c.cell (by decide)
  have x7 : W2.cell? ⟨P1, 7, none⟩ = some (.int .i64 m.objs) := RP1c.cell (by decide)
  have y0 : W2.cell? ⟨P2, 0, none⟩ = some (.int .i64 m.kind) := RP2c.cell (by decide)
  have y1 : W2.cell? ⟨P2, 1, none⟩ = some (.int .i64 m.obj) := RP2c.cell (by decide)
  have y2 : W2.cell? ⟨P2, 2, none⟩ = some (.int .i64 m.blk) := RP2c.cell (by decide)
  have y3 : W2.cell? ⟨P2, 3, none⟩ = some (.int .i64 m.num) := RP2c.cell (by decide)
  have y4 : W2.cell? ⟨P2, 4, none⟩ = some (.int .i64 m.len) := RP2c.cell (by decide)
  have y5 : W2.cell? ⟨P2, 5, none⟩ = some (.string m.sym) := RP2c.cell (by decide)
  have y6 : W2.cell? ⟨P2, 6, none⟩ = some (.slice bo m.items.length cb) := RP2c.cell (by decide)
  have y7 : W2.cell? ⟨P2, 7, none⟩ = some (.int .i64 m.objs) := RP2c.cell (by decide)
  have HS := sameMessage_eq m.kind m.obj m.blk m.num m.len m.sym ao bo m.items.length ca cb (itF m.items) m.objs W2 hmx (owns_items O1c) (owns_items O2c)
  have HO1 : Hid (W2.ownsRow N 40 3 (.slice ao m.items.length ca) m.items.length (icells (itF m.items) m.items.length)) := O1c
  have HO2 : Hid (W2.ownsRow (P1 + 1) 40 3 (.slice bo m.items.length cb) m.items.length (icells (itF m.items) m.items.length)) := O2c
  have HR1 : Hid (W2.rowIs P1 38 8 (mRow m.kind m.obj m.blk m.num m.len m.sym (.slice ao m.items.length ca) m.objs)) := RP1c
  have HR2 : Hid (W2.rowIs P2 38 8 (mRow m.kind m.obj m.blk m.num m.len m.sym (.slice bo m.items.length cb) m.objs)) := RP2c
  clear O1c O2c RP1c RP2c hP1' hP2'
  go_wp2_with fail
  refine HS.mono ?_
  rintro e w3 ⟨rfl, hb3⟩
  clear HS x0 x1 x2 x3 x4 x5 x6 x7 y0 y1 y2 y3 y4 y5 y6 y7
  have z3 : P2 + 1 ≤ w3.heap.size := by have := hb3.size; omega
  have R13 := HR1.out.of_block (hb3.block P1 (by omega))
  have R23 := HR2.out.of_block (hb3.block P2 (by omega))
  have O13 := owns_below HO1.out hb3
  have O23 := owns_below HO2.out hb3
  have B3 : Below N w w3 := BW3.trans (hb3.mono (by omega))
  have c6 : w3.cell? ⟨P1, 6, none⟩ = some (.slice ao m.items.length ca) := R13.cell (by decide)
  have HM := marked_any ao m.items.length ca N (itF m.items) 77 w3 hm8 O13
  have HR13 : Hid (w3.rowIs P1 38 8 (mRow m.kind m.obj m.blk m.num m.len m.sym (.slice ao m.items.length ca) m.objs)) := R13
  have HR23 : Hid (w3.rowIs P2 38 8 (mRow m.kind m.obj m.blk m.num m.len m.sym (.slice bo m.items.length cb) m.objs)) := R23
  have HO23 : Hid (w3.ownsRow (P1 + 1) 40 3 (.slice bo m.items.length cb) m.items.length (icells (itF m.items) m.items.length)) := O23
  clear HR1 HR2 HO1 HO2 BW3 hb3 zc R13 R23 O13 O23
  go_wp2_with fail
  refine HM.mono ?_
  rintro e w4 ⟨A1, cA1, rfl, MA, G4⟩
  clear HM c6
  have z4 : P2 + 1 ≤ w4.heap.size := by have := G4.size; omega
  have R14 := HR13.out.of_block (G4.block P1 (by omega) (fun e => by have := own1P P1 e.symm; omega))
  have R24 := HR23.out.of_block (G4.block P2 (by omega) (fun e => by have := own1P P2 e.symm; omega))
  have O24 := owns_block HO23.out (fun b hb => G4.block b (by have := own2P b hb; omega) (fun e => by have := own1P b e.symm; have := own2P b hb; omega))
  have B4 : Below N w w4 := B3.grown G4 (by omega) (fun b hb => (own1P b hb).1)
  have HS1 : Hid (∀ b, ((Value.slice ao m.items.length ca).ownBlock = some b ∨ w3.heap.size ≤ b) → b ≠ P1) := fun b hb e => by
    rcases hb with hb | hb
    · have := own1P b hb; omega
    · omega
  have HMA : Hid (MarkedAt w4 A1 m.items.length 77 (fun b => (Value.slice ao m.items.length ca).ownBlock = some b ∨ w3.heap.size ≤ b)) := MA
  have HR14 : Hid (w4.rowIs P1 38 8 (mRow m.kind m.obj m.blk m.num m.len m.sym (.slice ao m.items.length ca) m.objs)) := R14
  have HR24 : Hid (w4.rowIs P2 38 8 (mRow m.kind m.obj m.blk m.num m.len m.sym (.slice bo m.items.length cb) m.objs)) := R24
  have HO24 : Hid (w4.ownsRow (P1 + 1) 40 3 (.slice bo m.items.length cb) m.items.length (icells (itF m.items) m.items.length)) := O24
  have HB4 : Hid (Below N w w4) := B4
  have H5 := RL2 w4
  unfold RO at H5
  clear HR13 HR23 HO23 G4 MA R14 R24 O24 B3 B4 own1P
  go_wp2_with fail
  refine H5.mono ?_
  rintro e w5 ⟨co, cc, rfl, hown3, hb5⟩
  clear H5
  have z5 : w4.heap.size ≤ w5.heap.size := hb5.size
  have R15 := HR14.out.of_block (hb5.block P1 (by omega))
  have B5 : Below N w w5 := HB4.out.trans (hb5.mono (by omega))
  have own3P : ∀ b, (Value.slice co m2.items.length cc).ownBlock = some b → w4.heap.size ≤ b := fun b hb => (hown3.lt b hb).1
  have K5 : Keep w4 w5 P1 := ⟨hb5.size, fun b h1 h2 => hb5.block b h1⟩
  have HOW3 : Hid (w5.ownsRow w4.heap.size 40 3 (.slice co m2.items.length cc) m2.items.length (icells (itF m2.items) m2.items.length)) := hown3
  have x0 : w5.cell? ⟨P1, 0, none⟩ = some (.int .i64 m.kind) := R15.cell (by decide)
  have x1 : w5.cell? ⟨P1, 1, none⟩ = some (.int .i64 m.obj) := R15.cell (by decide)
  have x2 : w5.cell? ⟨P1, 2, none⟩ = some (.int .i64 m.blk) := R15.cell (by decide)
  have x3 : w5.cell? ⟨P1, 3, none⟩ = some (.int .i64 m.num) := R15.cell (by decide)
  have x4 : w5.cell? ⟨P1, 4, none⟩ = some (.int .i64 m.len) := R15.cell (by decide)
  have x5 : w5.cell? ⟨P1, 5, none⟩ = some (.string m.sym) := R15.cell (by decide)
  have x6 : w5.cell? ⟨P1, 6, none⟩ = some (.slice ao m.items.length ca) := R15.cell (by decide)
  have x7 : w5.cell? ⟨P1, 7, none⟩ = some (.int .i64 m.objs) := R15.cell (by decide)
  have f0 := R15.frozen 0
  have f1 := R15.frozen 1
  have f2 := R15.frozen 2
  have f3 := R15.frozen 3
  have f4 := R15.frozen 4
  have f5 := R15.frozen 5
  have f6 := R15.frozen 6
  have f7 := R15.frozen 7
  have R15' := row_all m2.kind m2.obj m2.blk m2.num m2.len m2.sym (.slice co m2.items.length cc) m2.objs R15
  have K5' := K5.all (.int .i64 m2.kind) (.int .i64 m2.obj) (.int .i64 m2.blk) (.int .i64 m2.num) (.int .i64 m2.len) (.string m2.sym) (.slice co m2.items.length cc) (.int .i64 m2.objs)
  have B5' := all_below (.int .i64 m2.kind) (.int .i64 m2.obj) (.int .i64 m2.blk) (.int .i64 m2.num) (.int .i64 m2.len) (.string m2.sym) (.slice co m2.items.length cc) (.int .i64 m2.objs) B5 hz1
  have z5' := all_size w5 P1 (.int .i64 m2.kind) (.int .i64 m2.obj) (.int .i64 m2.blk) (.int .i64 m2.num) (.int .i64 m2.len) (.string m2.sym) (.slice co m2.items.length cc) (.int .i64 m2.objs)
  have O35 := owns_block (w' := ((((((((w5.setCell ⟨P1, 0, none⟩ (.int .i64 m2.kind)).setCell ⟨P1, 1, none⟩ (.int .i64 m2.obj)).setCell ⟨P1, 2, none⟩ (.int .i64 m2.blk)).setCell ⟨P1, 3, none⟩ (.int .i64 m2.num)).setCell ⟨P1, 4, none⟩ (.int .i64 m2.len)).setCell ⟨P1, 5, none⟩ (.string m2.sym)).setCell ⟨P1, 6, none⟩ (.slice co m2.items.length cc)).setCell ⟨P1, 7, none⟩ (.int .i64 m2.objs))) HOW3.out (fun b hb => all_other w5 P1 _ _ _ _ _ _ _ _ b (by have := own3P b hb; omega))
  clear HR14 HB4 hown3 hb5 R15 B5 K5 HOW3
  go_upto_region 8 with fail
  generalize ((((((((w5.setCell ⟨P1, 0, none⟩ (.int .i64 m2.kind)).setCell ⟨P1, 1, none⟩ (.int .i64 m2.obj)).setCell ⟨P1, 2, none⟩ (.int .i64 m2.blk)).setCell ⟨P1, 3, none⟩ (.int .i64 m2.num)).setCell ⟨P1, 4, none⟩ (.int .i64 m2.len)).setCell ⟨P1, 5, none⟩ (.string m2.sym)).setCell ⟨P1, 6, none⟩ (.slice co m2.items.length cc)).setCell ⟨P1, 7, none⟩ (.int .i64 m2.objs)) = W5 at *
  clear x0 x1 x2 x3 x4 x5 x6 x7 f0 f1 f2 f3 f4 f5 f6 f7
  have H6 := RR2 W5
  unfold RO at H6
  have HR15 : Hid (W5.rowIs P1 38 8 (mRow m2.kind m2.obj m2.blk m2.num m2.len m2.sym (.slice co m2.items.length cc) m2.objs)) := R15'
  have HO35 : Hid (W5.ownsRow w4.heap.size 40 3 (.slice co m2.items.length cc) m2.items.length (icells (itF m2.items) m2.items.length)) := O35
  have HK5 : Hid (Keep w4 W5 P1) := K5'
  have HB5 : Hid (Below N w W5) := B5'
  clear R15' O35 K5' B5'
  go_wp2_with fail
  refine H6.mono ?_
  rintro e w6 ⟨dq, cd, rfl, hown4, hb6⟩
  clear H6
  have z6 : w4.heap.size ≤ w6.heap.size := by have := hb6.size; omega
  have R16 := HR15.out.of_block (hb6.block P1 (by omega))
  have O36 := owns_below HO35.out hb6
  have K6 := HK5.out.below hb6
  have B6 : Below N w w6 := HB5.out.trans (hb6.mono (by omega))
  obtain ⟨P3, hP3⟩ : ∃ P, P = w6.heap.size := ⟨_, rfl⟩
  have R16c := R16.of_block (Below.heap_alloc w6 (mBox m2.kind m2.obj m2.blk m2.num m2.len m2.sym dq m2.items.length cd m2.objs) P1 (by omega))
  have RP3 : (w6.alloc (mBox m2.kind m2.obj m2.blk m2.num m2.len m2.sym dq m2.items.length cd m2.objs)).rowIs P3 38 8 (mRow m2.kind m2.obj m2.blk m2.num m2.len m2.sym (.slice dq m2.items.length cd) m2.objs) := mRow_new hP3 _ _ _ _ _ _ _ _
  have O36c := O36.alloc (mBox m2.kind m2.obj m2.blk m2.num m2.len m2.sym dq m2.items.length cd m2.objs)
  have O46c := hown4.alloc (mBox m2.kind m2.obj m2.blk m2.num m2.len m2.sym dq m2.items.length cd m2.objs)
  have K6c := K6.alloc (mBox m2.kind m2.obj m2.blk m2.num m2.len m2.sym dq m2.items.length cd m2.objs)
  have B6c : Below N w (w6.alloc (mBox m2.kind m2.obj m2.blk m2.num m2.len m2.sym dq m2.items.length cd m2.objs)) := B6.alloc (by omega) _
  have z6c : (w6.alloc (mBox m2.kind m2.obj m2.blk m2.num m2.len m2.sym dq m2.items.length cd m2.objs)).heap.size = P3 + 1 := by simp; omega
  have hP3w : w4.heap.size ≤ P3 := by omega
  have hP3' : w6.heap.size = P3 := hP3.symm
  clear HR15 HO35 HK5 HB5 hown4 hb6 R16 O36 K6 B6 hP3
  go_upto_region 9 with fail
  generalize w6.alloc (mBox m2.kind m2.obj m2.blk m2.num m2.len m2.sym dq m2.items.length cd m2.objs) = W6 at *
  have x0 : W6.cell? ⟨P1, 0, none⟩ = some (.int .i64 m2.kind) := R16c.cell (by decide)
  have x1 : W6.cell? ⟨P1, 1, none⟩ = some (.int .i64 m2.obj) := R16c.cell (by decide)
  have x2 : W6.cell? ⟨P1, 2, none⟩ = some (.int .i64 m2.blk) := R16c.cell (by decide)
  have x3 : W6.cell? ⟨P1, 3, none⟩ = some (.int .i64 m2.num) := R16c.cell (by decide)
  have x4 : W6.cell? ⟨P1, 4, none⟩ = some (.int .i64 m2.len) := R16c.cell (by decide)
  have x5 : W6.cell? ⟨P1, 5, none⟩ = some (.string m2.sym) := R16c.cell (by decide)
  have x6 : W6.cell? ⟨P1, 6, none⟩ = some (.slice co m2.items.length cc) := R16c.cell (by decide)
  have x7 : W6.cell? ⟨P1, 7, none⟩ = some (.int .i64 m2.objs) := R16c.cell (by decide)
  have y0 : W6.cell? ⟨P3, 0, none⟩ = some (.int .i64 m2.kind) := RP3.cell (by decide)
  have y1 : W6.cell? ⟨P3, 1, none⟩ = some (.int .i64 m2.obj) := RP3.cell (by decide)
  have y2 : W6.cell? ⟨P3, 2, none⟩ = some (.int .i64 m2.blk) := RP3.cell (by decide)
  have y3 : W6.cell? ⟨P3, 3, none⟩ = some (.int .i64 m2.num) := RP3.cell (by decide)
  have y4 : W6.cell? ⟨P3, 4, none⟩ = some (.int .i64 m2.len) := RP3.cell (by decide)
  have y5 : W6.cell? ⟨P3, 5, none⟩ = some (.string m2.sym) := RP3.cell (by decide)
  have y6 : W6.cell? ⟨P3, 6, none⟩ = some (.slice dq m2.items.length cd) := RP3.cell (by decide)
  have y7 : W6.cell? ⟨P3, 7, none⟩ = some (.int .i64 m2.objs) := RP3.cell (by decide)
  have HS := sameMessage_eq m2.kind m2.obj m2.blk m2.num m2.len m2.sym co dq m2.items.length cc cd (itF m2.items) m2.objs W6 hmx2 (owns_items O36c) (owns_items O46c)
  have HR16 : Hid (W6.rowIs P1 38 8 (mRow m2.kind m2.obj m2.blk m2.num m2.len m2.sym (.slice co m2.items.length cc) m2.objs)) := R16c
  have HO36 : Hid (W6.ownsRow w4.heap.size 40 3 (.slice co m2.items.length cc) m2.items.length (icells (itF m2.items) m2.items.length)) := O36c
  have HK6 : Hid (Keep w4 W6 P1) := K6c
  have HB6 : Hid (Below N w W6) := B6c
  clear R16c RP3 O36c O46c K6c B6c hP3'
  go_wp2_with fail
  refine HS.mono ?_
  rintro e w7 ⟨rfl, hb7⟩
  clear HS x0 x1 x2 x3 x4 x5 x6 x7 y0 y1 y2 y3 y4 y5 y6 y7
  have z7 : w4.heap.size < w7.heap.size := by have := hb7.size; omega
  have R17 := HR16.out.of_block (hb7.block P1 (by omega))
  have O37 := owns_below HO36.out hb7
  have K7 := HK6.out.below hb7
  have B7 : Below N w w7 := HB6.out.trans (hb7.mono (by omega))
  have c6 : w7.cell? ⟨P1, 6, none⟩ = some (.slice co m2.items.length cc) := R17.cell (by decide)
  have HM := marked_any co m2.items.length cc w4.heap.size (itF m2.items) 78 w7 hm28 O37
  have HR17 : Hid (w7.rowIs P1 38 8 (mRow m2.kind m2.obj m2.blk m2.num m2.len m2.sym (.slice co m2.items.length cc) m2.objs)) := R17
  have HK7 : Hid (Keep w4 w7 P1) := K7
  have HB7 : Hid (Below N w w7) := B7
  clear HR16 HO36 HK6 HB6 hb7 z6c R17 O37 K7 B7
  go_wp2_with fail
  refine HM.mono ?_
  rintro e w8 ⟨A2, cA2, rfl, MB, G8⟩
  clear HM c6
  have z8 : w7.heap.size ≤ w8.heap.size := G8.size
  have R18 := HR17.out.of_block (G8.block P1 (by omega) (fun e => by have := own3P P1 e.symm; omega))
  have K8 := HK7.out.grown G8 own3P
  have B8 : Below N w w8 := HB7.out.grown G8 (by omega) (fun b hb => by have := own3P b hb; omega)
  have HS2 : Hid (∀ b, ((Value.slice co m2.items.length cc).ownBlock = some b ∨ w7.heap.size ≤ b) → b ≠ P1) := fun b hb e => by
    rcases hb with hb | hb
    · have := own3P b hb; omega
    · omega
  have HMB : Hid (MarkedAt w8 A2 m2.items.length 78 (fun b => (Value.slice co m2.items.length cc).ownBlock = some b ∨ w7.heap.size ≤ b)) := MB
  have HR18 : Hid (w8.rowIs P1 38 8 (mRow m2.kind m2.obj m2.blk m2.num m2.len m2.sym (.slice co m2.items.length cc) m2.objs)) := R18
  have HK8 : Hid (Keep w4 w8 P1) := K8
  have HB8 : Hid (Below N w w8) := B8
  have H9 := RL w8
  unfold RO at H9
  clear HR17 HK7 HB7 G8 MB R18 K8 B8 own3P
  go_wp2_with fail
  refine H9.mono ?_
  rintro e w9 ⟨eo, ce, rfl, hown5, hb9⟩
  clear H9
  have z9 : w8.heap.size ≤ w9.heap.size := hb9.size
  have R19 := HR18.out.of_block (hb9.block P1 (by omega))
  have K9 := HK8.out.below hb9
  have B9 : Below N w w9 := HB8.out.trans (hb9.mono (by omega))
  have own5P : ∀ b, (Value.slice eo m.items.length ce).ownBlock = some b → w8.heap.size ≤ b := fun b hb => (hown5.lt b hb).1
  have KB9 : Keep w8 w9 P1 := ⟨hb9.size, fun b h1 h2 => hb9.block b h1⟩
  have HOW5 : Hid (w9.ownsRow w8.heap.size 40 3 (.slice eo m.items.length ce) m.items.length (icells (itF m.items) m.items.length)) := hown5
  have x0 : w9.cell? ⟨P1, 0, none⟩ = some (.int .i64 m2.kind) := R19.cell (by decide)
  have x1 : w9.cell? ⟨P1, 1, none⟩ = some (.int .i64 m2.obj) := R19.cell (by decide)
  have x2 : w9.cell? ⟨P1, 2, none⟩ = some (.int .i64 m2.blk) := R19.cell (by decide)
  have x3 : w9.cell? ⟨P1, 3, none⟩ = some (.int .i64 m2.num) := R19.cell (by decide)
  have x4 : w9.cell? ⟨P1, 4, none⟩ = some (.int .i64 m2.len) := R19.cell (by decide)
  have x5 : w9.cell? ⟨P1, 5, none⟩ = some (.string m2.sym) := R19.cell (by decide)
  have x6 : w9.cell? ⟨P1, 6, none⟩ = some (.slice co m2.items.length cc) := R19.cell (by decide)
  have x7 : w9.cell? ⟨P1, 7, none⟩ = some (.int .i64 m2.objs) := R19.cell (by decide)
  have f0 := R19.frozen 0
  have f1 := R19.frozen 1
  have f2 := R19.frozen 2
  have f3 := R19.frozen 3
  have f4 := R19.frozen 4
  have f5 := R19.frozen 5
  have f6 := R19.frozen 6
  have f7 := R19.frozen 7
  have R19' := row_all m.kind m.obj m.blk m.num m.len m.sym (.slice eo m.items.length ce) m.objs R19
  have K9' := K9.all (.int .i64 m.kind) (.int .i64 m.obj) (.int .i64 m.blk) (.int .i64 m.num) (.int .i64 m.len) (.string m.sym) (.slice eo m.items.length ce) (.int .i64 m.objs)
  have KB9' := KB9.all (.int .i64 m.kind) (.int .i64 m.obj) (.int .i64 m.blk) (.int .i64 m.num) (.int .i64 m.len) (.string m.sym) (.slice eo m.items.length ce) (.int .i64 m.objs)
  have B9' := all_below (.int .i64 m.kind) (.int .i64 m.obj) (.int .i64 m.blk) (.int .i64 m.num) (.int .i64 m.len) (.string m.sym) (.slice eo m.items.length ce) (.int .i64 m.objs) B9 hz1
  have O59 := owns_block (w' := ((((((((w9.setCell ⟨P1, 0, none⟩ (.int .i64 m.kind)).setCell ⟨P1, 1, none⟩ (.int .i64 m.obj)).setCell ⟨P1, 2, none⟩ (.int .i64 m.blk)).setCell ⟨P1, 3, none⟩ (.int .i64 m.num)).setCell ⟨P1, 4, none⟩ (.int .i64 m.len)).setCell ⟨P1, 5, none⟩ (.string m.sym)).setCell ⟨P1, 6, none⟩ (.slice eo m.items.length ce)).setCell ⟨P1, 7, none⟩ (.int .i64 m.objs))) HOW5.out (fun b hb => all_other w9 P1 _ _ _ _ _ _ _ _ b (by have := own5P b hb; omega))
  clear HR18 HK8 HB8 hown5 hb9 R19 K9 KB9 B9 HOW5 own5P
  go_upto_region 14 with fail
  generalize ((((((((w9.setCell ⟨P1, 0, none⟩ (.int .i64 m.kind)).setCell ⟨P1, 1, none⟩ (.int .i64 m.obj)).setCell ⟨P1, 2, none⟩ (.int .i64 m.blk)).setCell ⟨P1, 3, none⟩ (.int .i64 m.num)).setCell ⟨P1, 4, none⟩ (.int .i64 m.len)).setCell ⟨P1, 5, none⟩ (.string m.sym)).setCell ⟨P1, 6, none⟩ (.slice eo m.items.length ce)).setCell ⟨P1, 7, none⟩ (.int .i64 m.objs)) = W9 at *
  clear x0 x1 x2 x3 x4 x5 x6 x7 f0 f1 f2 f3 f4 f5 f6 f7
  have R29 := HR24.out.of_block (K9'.2 P2 (by omega) (by omega))
  have O29 := owns_block HO24.out (fun b hb => K9'.2 b (by have := own2P b hb; omega) (by have := own2P b hb; omega))
  have MA9 := HMA.out.stay K9'.1 (fun b hS hlt => K9'.2 b hlt (HS1.out b hS))
  have MB9 := HMB.out.stay KB9'.1 (fun b hS hlt => KB9'.2 b hlt (HS2.out b hS))
  have x0 : W9.cell? ⟨P1, 0, none⟩ = some (.int .i64 m.kind) := R19'.cell (by decide)
  have x1 : W9.cell? ⟨P1, 1, none⟩ = some (.int .i64 m.obj) := R19'.cell (by decide)
  have x2 : W9.cell? ⟨P1, 2, none⟩ = some (.int .i64 m.blk) := R19'.cell (by decide)
  have x3 : W9.cell? ⟨P1, 3, none⟩ = some (.int .i64 m.num) := R19'.cell (by decide)
  have x4 : W9.cell? ⟨P1, 4, none⟩ = some (.int .i64 m.len) := R19'.cell (by decide)
  have x5 : W9.cell? ⟨P1, 5, none⟩ = some (.string m.sym) := R19'.cell (by decide)
  have x6 : W9.cell? ⟨P1, 6, none⟩ = some (.slice eo m.items.length ce) := R19'.cell (by decide)
  have x7 : W9.cell? ⟨P1, 7, none⟩ = some (.int .i64 m.objs) := R19'.cell (by decide)
  have y0 : W9.cell? ⟨P2, 0, none⟩ = some (.int .i64 m.kind) := R29.cell (by decide)
  have y1 : W9.cell? ⟨P2, 1, none⟩ = some (.int .i64 m.obj) := R29.cell (by decide)
  have y2 : W9.cell? ⟨P2, 2, none⟩ = some (.int .i64 m.blk) := R29.cell (by decide)
  have y3 : W9.cell? ⟨P2, 3, none⟩ = some (.int .i64 m.num) := R29.cell (by decide)
  have y4 : W9.cell? ⟨P2, 4, none⟩ = some (.int .i64 m.len) := R29.cell (by decide)
  have y5 : W9.cell? ⟨P2, 5, none⟩ = some (.string m.sym) := R29.cell (by decide)
  have y6 : W9.cell? ⟨P2, 6, none⟩ = some (.slice bo m.items.length cb) := R29.cell (by decide)
  have y7 : W9.cell? ⟨P2, 7, none⟩ = some (.int .i64 m.objs) := R29.cell (by decide)
  have HS := sameMessage_eq m.kind m.obj m.blk m.num m.len m.sym eo bo m.items.length ce cb (itF m.items) m.objs W9 hmx (owns_items O59) (owns_items O29)
  have zW9 : w4.heap.size ≤ W9.heap.size := K9'.1
  have HMA9 : Hid (MarkedAt W9 A1 m.items.length 77 (fun b => (Value.slice ao m.items.length ca).ownBlock = some b ∨ w3.heap.size ≤ b)) := MA9
  have HMB9 : Hid (MarkedAt W9 A2 m2.items.length 78 (fun b => (Value.slice co m2.items.length cc).ownBlock = some b ∨ w7.heap.size ≤ b)) := MB9
  have HB9 : Hid (Below N w W9) := B9'
  clear R19' R29 O29 O59 MA9 MB9 K9' KB9' B9' HMA HMB HS1 HS2 HR24 HO24 own2P
  go_wp2_with fail
  refine HS.mono ?_
  rintro e w10 ⟨rfl, hb10⟩
  clear HS x0 x1 x2 x3 x4 x5 x6 x7 y0 y1 y2 y3 y4 y5 y6 y7
  have B10 : Below N w w10 := HB9.out.trans (hb10.mono (by omega))
  have SA := still_any A1 m.items.length cA1 77 w10 _ hm8 (HMA9.out.stay hb10.size (fun b _ hlt => hb10.block b hlt))
  have SB := still_any A2 m2.items.length cA2 78 w10 _ hm28 (HMB9.out.stay hb10.size (fun b _ hlt => hb10.block b hlt))
  clear HMA9 HMB9 HB9 hb10
  go_wp2_with fail
  refine SA.mono ?_
  rintro e w11 ⟨rfl, rfl⟩
  clear SA
  go_wp2_with fail
  refine SB.mono ?_
  rintro e w12 ⟨rfl, rfl⟩
  clear SB
  go_wp2
  go_ret
  exact ⟨by simp, B10⟩
end Ms
end Go.Proofs.Ytkgnmcekeeannaa
