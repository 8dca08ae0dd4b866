import Derived.Test.YtkgnmcekeeannabW30
import Derived.Test.YtkgnmcekeeannabW28
import Derived.Test.YtkgnmcekeeannabW29
import Derived.Test.YtkgnmcekeeannabW25
namespace Go.Proofs.Ytkgnmcekeeannab
open Go.RowKit Go.Deep
namespace Ms
open Bs
set_option linter.unusedVariables false

set_option maxRecDepth 100000 in
set_option maxHeartbeats 4000000 in
theorem mRead (s : ByteArray) (w : World) (hs : s.size ≤ 1048576) :
    Calls Try.prog 29 #[.string s] w fun e w' => ReadOut s e w w' ∧ Below w.heap.size w w' := by
  obtain ⟨N, hN⟩ : ∃ N, N = w.heap.size := ⟨_, rfl⟩
  have HG := lanGuess s (w.alloc (mBox 0 0 0 0 0 ⟨#[]⟩ none 0 0 0)) hs
  have hgs : (gLan s).sym.size ≤ maxLen := by have := gLan_sym s; unfold maxLen; omega
  have B0 : Below N w (w.alloc (mBox 0 0 0 0 0 ⟨#[]⟩ none 0 0 0)) := by rw [hN]; exact (Below.refl _ _).alloc (Nat.le_refl _) _
  have P0 : (w.alloc (mBox 0 0 0 0 0 ⟨#[]⟩ none 0 0 0)).rowIs N 24 8 (mRow 0 0 0 0 0 ⟨#[]⟩ (.slice none 0 0) 0) := mRow_new hN _ _ _ _ _ _ _ _
  have HTG : Hid (∀ m, Tells s m → gLan s = m) := fun m h => tells_lan h
  have hN' : w.heap.size = N := hN.symm
  unfold ReadOut
  rw [hN']
  clear hN
  go_enter Try.func29, Try.ntmps29
  go_wp2_with fail
  refine HG.mono ?_
  rintro e w1 ⟨⟨ao, cap, rfl, hown⟩, hb1⟩
  clear HG
  have hz : (w.alloc (mBox 0 0 0 0 0 ⟨#[]⟩ none 0 0 0)).heap.size = N + 1 := by simp; omega
  rw [hz] at hown hb1
  have R1 := P0.of_block (hb1.block N (by omega))
  have B1 : Below N w w1 := B0.trans (hb1.mono (by omega))
  have z1 : N + 1 ≤ w1.heap.size := by have := hb1.size; omega
  have HOWN : Hid (w1.ownsRow (N + 1) 106 3 (.slice ao (gLan s).items.length cap) (gLan s).items.length (icells (itF (gLan s).items) (gLan s).items.length)) := hown
  have hn := owns_len hown
  clear P0 B0 hz hb1 hown
  generalize gLan s = g at *
  have B2 : Below N w (w1.alloc (mBox g.kind g.obj g.blk g.num g.len g.sym ao g.items.length cap g.objs)) := B1.alloc (by omega) _
  have R2 := R1.of_block (Below.heap_alloc w1 (mBox g.kind g.obj g.blk g.num g.len g.sym ao g.items.length cap g.objs) N (by omega))
  have O2 : Hid ((w1.alloc (mBox g.kind g.obj g.blk g.num g.len g.sym ao g.items.length cap g.objs)).ownsRow (N + 1) 106 3 (.slice ao g.items.length cap) g.items.length (icells (itF g.items) g.items.length)) := HOWN.out.alloc _
  have HW := mWrite g ao cap (w1.alloc (mBox g.kind g.obj g.blk g.num g.len g.sym ao g.items.length cap g.objs)) hn hgs (owns_items O2.out)
  have RB : (w1.alloc (mBox g.kind g.obj g.blk g.num g.len g.sym ao g.items.length cap g.objs)).rowIs w1.heap.size 24 8 (mRow g.kind g.obj g.blk g.num g.len g.sym (.slice ao g.items.length cap) g.objs) := mRow_new rfl _ _ _ _ _ _ _ _
  have z2 : (w1.alloc (mBox g.kind g.obj g.blk g.num g.len g.sym ao g.items.length cap g.objs)).heap.size = w1.heap.size + 1 := by simp
  clear HOWN R1 B1
  go_wp2_with fail
  refine HW.mono ?_
  rintro e w3 ⟨ho, hb3⟩
  have R3 := R2.of_block (hb3.block N (by omega))
  have RB3 := RB.of_block (hb3.block w1.heap.size (by omega))
  have O3 : Hid (w3.ownsRow (N + 1) 106 3 (.slice ao g.items.length cap) g.items.length (icells (itF g.items) g.items.length)) := owns_below O2.out hb3
  have B3 : Below N w w3 := B2.trans (hb3.mono (by omega))
  clear HW R2 RB O2 B2 hb3 z2
  have y0 : w3.cell? ⟨N, 0, none⟩ = some (.int .i64 0) := R3.cell (by decide)
  have y1 : w3.cell? ⟨N, 1, none⟩ = some (.int .i64 0) := R3.cell (by decide)
  have y2 : w3.cell? ⟨N, 2, none⟩ = some (.int .i64 0) := R3.cell (by decide)
  have y3 : w3.cell? ⟨N, 3, none⟩ = some (.int .i64 0) := R3.cell (by decide)
  have y4 : w3.cell? ⟨N, 4, none⟩ = some (.int .i64 0) := R3.cell (by decide)
  have y5 : w3.cell? ⟨N, 5, none⟩ = some (.string ⟨#[]⟩) := R3.cell (by decide)
  have y6 : w3.cell? ⟨N, 6, none⟩ = some (.slice none 0 0) := R3.cell (by decide)
  have y7 : w3.cell? ⟨N, 7, none⟩ = some (.int .i64 0) := R3.cell (by decide)
  have f0 := R3.frozen 0
  have f1 := R3.frozen 1
  have f2 := R3.frozen 2
  have f3 := R3.frozen 3
  have f4 := R3.frozen 4
  have f5 := R3.frozen 5
  have f6 := R3.frozen 6
  have f7 := R3.frozen 7
  have x0 : w3.cell? ⟨w1.heap.size, 0, none⟩ = some (.int .i64 g.kind) := RB3.cell (by decide)
  have x1 : w3.cell? ⟨w1.heap.size, 1, none⟩ = some (.int .i64 g.obj) := RB3.cell (by decide)
  have x2 : w3.cell? ⟨w1.heap.size, 2, none⟩ = some (.int .i64 g.blk) := RB3.cell (by decide)
  have x3 : w3.cell? ⟨w1.heap.size, 3, none⟩ = some (.int .i64 g.num) := RB3.cell (by decide)
  have x4 : w3.cell? ⟨w1.heap.size, 4, none⟩ = some (.int .i64 g.len) := RB3.cell (by decide)
  have x5 : w3.cell? ⟨w1.heap.size, 5, none⟩ = some (.string g.sym) := RB3.cell (by decide)
  have x6 : w3.cell? ⟨w1.heap.size, 6, none⟩ = some (.slice ao g.items.length cap) := RB3.cell (by decide)
  have x7 : w3.cell? ⟨w1.heap.size, 7, none⟩ = some (.int .i64 g.objs) := RB3.cell (by decide)
  have B8 : ∀ v0 v1 v2 v3 v4 v5 v6 v7, Below N w ((((((((w3.setCell ⟨N, 0, none⟩ v0).setCell ⟨N, 1, none⟩ v1).setCell ⟨N, 2, none⟩ v2).setCell ⟨N, 3, none⟩ v3).setCell ⟨N, 4, none⟩ v4).setCell ⟨N, 5, none⟩ v5).setCell ⟨N, 6, none⟩ v6).setCell ⟨N, 7, none⟩ v7) := fun v0 v1 v2 v3 v4 v5 v6 v7 =>
    (((((((B3.setCell (Nat.le_refl _) _).setCell (Nat.le_refl _) _).setCell (Nat.le_refl _) _).setCell (Nat.le_refl _) _).setCell (Nat.le_refl _) _).setCell (Nat.le_refl _) _).setCell (Nat.le_refl _) _).setCell (Nat.le_refl _) _
  have HB8 : Hid (∀ v0 v1 v2 v3 v4 v5 v6 v7, Below N w ((((((((w3.setCell ⟨N, 0, none⟩ v0).setCell ⟨N, 1, none⟩ v1).setCell ⟨N, 2, none⟩ v2).setCell ⟨N, 3, none⟩ v3).setCell ⟨N, 4, none⟩ v4).setCell ⟨N, 5, none⟩ v5).setCell ⟨N, 6, none⟩ v6).setCell ⟨N, 7, none⟩ v7)) := B8
  clear R3 RB3 B8 B3
  rcases ho with ⟨hok, rfl⟩ | ⟨hno, rfl⟩
  · have HOK : Hid (ok g) := hok
    clear hok
    by_cases ht : s.data.toList = text g
    · have HT : Hid (s = txt (text g)) := by unfold Hid; rw [← ht]; rfl
      have HTE : Hid (s.data.toList = text g) := ht
      have tt : ((txt (text g)).toList == s.toList) = true := by rw [← HT.out]; simp
      clear ht
      generalize txt (text g) = T at *
      go_wp2
      refine bodyPost_ret (v := .tuple #[mVm g ao cap, .int .i64 0]) (by simp [results, Try.results29, go_sem, y0, y1, y2, y3, y4, y5, y6, y7]) rfl ?_
      have hne : (Value.slice ao g.items.length cap).ownBlock ≠ some N := fun e => by have := (O3.out.lt _ e).1; omega
      exact ⟨.inl ⟨g, ao, cap, ⟨HOK.out, HTE.out⟩, rfl, owns_mono (owns_setCell (owns_setCell (owns_setCell (owns_setCell (owns_setCell (owns_setCell (owns_setCell (owns_setCell O3.out hne) hne) hne) hne) hne) hne) hne) hne) (show N ≤ N + 1 by omega)⟩, HB8.out _ _ _ _ _ _ _ _⟩
    · have HN : Hid (∀ m, ¬ Tells s m) := fun m h => by have e := HTG.out m h; rw [e] at ht; exact ht h.2
      have tt : ((txt (text g)).toList == s.toList) = false := by
        rw [beq_eq_false_iff_ne]
        intro e
        rw [ByteArray.toList_eq, ByteArray.toList_eq, txt_data] at e
        exact ht e.symm
      clear ht
      generalize txt (text g) = T at *
      go_wp2
      refine bodyPost_ret (v := .tuple #[mV 0 0 0 0 0 ⟨#[]⟩ none 0 0 0, .int .i64 6]) (by simp [results, Try.results29, go_sem, y0, y1, y2, y3, y4, y5, y6, y7]) rfl ?_
      exact ⟨.inr ⟨HN.out, rfl⟩, HB8.out _ _ _ _ _ _ _ _⟩
  · have HN : Hid (∀ m, ¬ Tells s m) := fun m h => by have e := HTG.out m h; rw [e] at hno; exact hno h.1
    clear hno
    go_wp2
    refine bodyPost_ret (v := .tuple #[mV 0 0 0 0 0 ⟨#[]⟩ none 0 0 0, .int .i64 6]) (by simp [results, Try.results29, go_sem, y0, y1, y2, y3, y4, y5, y6, y7]) rfl ?_
    exact ⟨.inr ⟨HN.out, rfl⟩, HB8.out _ _ _ _ _ _ _ _⟩
end Ms
end Go.Proofs.Ytkgnmcekeeannab
namespace Go.Proofs.Ytkgnmcekeeannab
open Go.RowKit Go.Deep
namespace Ms
open Bs
set_option linter.unusedVariables false

set_option maxRecDepth 100000 in
set_option maxHeartbeats 4000000 in
theorem rRead (s : ByteArray) (w : World) (hs : s.size ≤ 1048576) :
    Calls Try.prog 7 #[.string s] w fun e w' => ReadOut s e w w' ∧ Below w.heap.size w w' := by
  obtain ⟨N, hN⟩ : ∃ N, N = w.heap.size := ⟨_, rfl⟩
  have HR := mRead s (w.alloc (mBox 0 0 0 0 0 ⟨#[]⟩ none 0 0 0)) hs
  have B0 : Below N w (w.alloc (mBox 0 0 0 0 0 ⟨#[]⟩ none 0 0 0)) := by rw [hN]; exact (Below.refl _ _).alloc (Nat.le_refl _) _
  have P0 : (w.alloc (mBox 0 0 0 0 0 ⟨#[]⟩ none 0 0 0)).rowIs N 24 8 (mRow 0 0 0 0 0 ⟨#[]⟩ (.slice none 0 0) 0) := mRow_new hN _ _ _ _ _ _ _ _
  have hz : (w.alloc (mBox 0 0 0 0 0 ⟨#[]⟩ none 0 0 0)).heap.size = N + 1 := by simp; omega
  have hN' : w.heap.size = N := hN.symm
  unfold ReadOut at HR
  rw [hz] at HR
  unfold ReadOut
  rw [hN']
  clear hN
  go_enter Try.func7, Try.ntmps7
  go_wp2_with fail
  refine HR.mono ?_
  rintro e w1 ⟨ho, hb1⟩
  have R3 := P0.of_block (hb1.block N (by omega))
  have B3 : Below N w w1 := B0.trans (hb1.mono (by omega))
  have HB8 : Hid (∀ v0 v1 v2 v3 v4 v5 v6 v7, Below N w ((((((((w1.setCell ⟨N, 0, none⟩ v0).setCell ⟨N, 1, none⟩ v1).setCell ⟨N, 2, none⟩ v2).setCell ⟨N, 3, none⟩ v3).setCell ⟨N, 4, none⟩ v4).setCell ⟨N, 5, none⟩ v5).setCell ⟨N, 6, none⟩ v6).setCell ⟨N, 7, none⟩ v7)) := fun v0 v1 v2 v3 v4 v5 v6 v7 =>
    (((((((B3.setCell (Nat.le_refl _) _).setCell (Nat.le_refl _) _).setCell (Nat.le_refl _) _).setCell (Nat.le_refl _) _).setCell (Nat.le_refl _) _).setCell (Nat.le_refl _) _).setCell (Nat.le_refl _) _).setCell (Nat.le_refl _) _
  have y0 : w1.cell? ⟨N, 0, none⟩ = some (.int .i64 0) := R3.cell (by decide)
  have y1 : w1.cell? ⟨N, 1, none⟩ = some (.int .i64 0) := R3.cell (by decide)
  have y2 : w1.cell? ⟨N, 2, none⟩ = some (.int .i64 0) := R3.cell (by decide)
  have y3 : w1.cell? ⟨N, 3, none⟩ = some (.int .i64 0) := R3.cell (by decide)
  have y4 : w1.cell? ⟨N, 4, none⟩ = some (.int .i64 0) := R3.cell (by decide)
  have y5 : w1.cell? ⟨N, 5, none⟩ = some (.string ⟨#[]⟩) := R3.cell (by decide)
  have y6 : w1.cell? ⟨N, 6, none⟩ = some (.slice none 0 0) := R3.cell (by decide)
  have y7 : w1.cell? ⟨N, 7, none⟩ = some (.int .i64 0) := R3.cell (by decide)
  have f0 := R3.frozen 0
  have f1 := R3.frozen 1
  have f2 := R3.frozen 2
  have f3 := R3.frozen 3
  have f4 := R3.frozen 4
  have f5 := R3.frozen 5
  have f6 := R3.frozen 6
  have f7 := R3.frozen 7
  clear HR hb1 R3 B3 B0 P0 hz
  rcases ho with ⟨m, ao, cap, ht, rfl, hown⟩ | ⟨hno, rfl⟩
  · have HT : Hid (Tells s m) := ht
    have HO : Hid (w1.ownsRow (N + 1) 106 3 (.slice ao m.items.length cap) m.items.length (icells (itF m.items) m.items.length)) := hown
    clear ht hown
    go_wp2
    refine bodyPost_ret (v := .tuple #[mVm m ao cap, .int .i64 0]) (by simp [results, Try.results7, go_sem, y0, y1, y2, y3, y4, y5, y6, y7]) rfl ?_
    have hne : (Value.slice ao m.items.length cap).ownBlock ≠ some N := fun e => by have := (HO.out.lt _ e).1; omega
    exact ⟨.inl ⟨m, ao, cap, HT.out, rfl, owns_mono (owns_setCell (owns_setCell (owns_setCell (owns_setCell (owns_setCell (owns_setCell (owns_setCell (owns_setCell HO.out hne) hne) hne) hne) hne) hne) hne) hne) (show N ≤ N + 1 by omega)⟩, HB8.out _ _ _ _ _ _ _ _⟩
  · have HN : Hid (∀ m, ¬ Tells s m) := hno
    clear hno
    go_wp2
    refine bodyPost_ret (v := .tuple #[mV 0 0 0 0 0 ⟨#[]⟩ none 0 0 0, .int .i64 6]) (by simp [results, Try.results7, go_sem, y0, y1, y2, y3, y4, y5, y6, y7]) rfl ?_
    exact ⟨.inr ⟨HN.out, rfl⟩, HB8.out _ _ _ _ _ _ _ _⟩
end Ms
end Go.Proofs.Ytkgnmcekeeannab
/-
  The landed Hear.
-/
namespace Go.Proofs.Ytkgnmcekeeannab
open Go.RowKit Go.Deep
namespace Sn
open Bs
open Ms (M It txt text ok mV mVm Tells ReadOut mRead itF icells icell ItemsAt owns_items mBox mRow mRow_new itOK)
set_option linter.unusedVariables false

def LS.anss (s : LS) (l : List It) : LS := l.foldl (fun s t => s.ans t.o.toNat t.b.toNat t.c.toNat) s
theorem anss_succ (s : LS) (l : List It) (j : Nat) (h : j < l.length) : s.anss (l.take (j + 1)) = (s.anss (l.take j)).ans (itF l j).o.toNat (itF l j).b.toNat (itF l j).c.toNat := by
  unfold LS.anss
  rw [List.take_add_one, List.foldl_append]
  simp [itF, List.getD_eq_getElem?_getD, h]
theorem anss_ok {s : LS} (h : LOk s) (l : List It) : LOk (s.anss l) := by
  unfold LS.anss
  induction l generalizing s with
  | nil => exact h
  | cons t l ih => exact ih (ans_ok h _ _ _)
theorem anss_ow8 {s : LS} (hs : LOk s) (h : OW8 s) (l : List It) : OW8 (s.anss l) := by
  unfold LS.anss
  induction l generalizing s with
  | nil => exact h
  | cons t l ih => exact ih (ans_ok hs _ _ _) (ans_ow8 hs h _ _ _)
def LHearOut (s s' : LS) (t : ByteArray) (e : Ending) : Prop :=
  (∃ m, Tells t m ∧ m.kind = 2 ∧ e = .returned (.int .i64 0) ∧ s' = s.anss m.items) ∨
  ((∀ m, Tells t m → m.kind ≠ 2) ∧ e = .returned (.int .i64 6) ∧ s' = s)
set_option maxRecDepth 100000 in
set_option maxHeartbeats 4000000 in
theorem lanHear (s : LS) (tx : ByteArray) (P : Nat) (F : Nat → Prop) (ao : Option Addr) (co : Nat) (D : Nat → Nat) (w : World) (hs : LOk s) (h8 : OW8 s) (ht : tx.size ≤ 1048576) (hA : LI w P s F ao co D) :
    Calls Try.prog 37 #[.pointer (some ⟨P, 0, none⟩), .string tx] w fun e w' => ∃ s', LHearOut s s' tx e ∧ LI w' P s' F ao co D ∧ Touch w w' F := by
  have HR := mRead tx w ht
  have L0 := hA.tight
  have HL0 : Hid (LI w P s (fun x => F x ∧ x < w.heap.size) ao co D) := L0
  have HS : Hid (LOk s) := hs
  have H8 : Hid (OW8 s) := h8
  clear hs h8 hA L0 ht
  go_enter Try.func37, Try.ntmps37
  go_wp2_with fail
  refine HR.mono ?_
  rintro e w1 ⟨ho, hb1⟩
  have HT1 : Hid (Touch w w1 F) := Touch.of_below hb1
  have L1 := HL0.out.below hb1
  have hz1 := hb1.size
  clear HR HL0
  rcases ho with ⟨m, ai, cap, hT, rfl, hown⟩ | ⟨hno, rfl⟩
  · have HTL : Hid (Tells tx m) := hT
    have B2 : Below w1.heap.size w1 (w1.alloc (mBox m.kind m.obj m.blk m.num m.len m.sym ai m.items.length cap m.objs)) := (Below.refl _ _).alloc (Nat.le_refl _) _
    have L2 := L1.below B2
    have HT2 : Hid (Touch w (w1.alloc (mBox m.kind m.obj m.blk m.num m.len m.sym ai m.items.length cap m.objs)) F) := HT1.out.below B2
    by_cases hk : m.kind = 2
    · have tk : (m.kind != 2) = false := by rw [hk]; rfl
      have hreq : m.items.length ≤ 8 ∧ ∀ t ∈ m.items, itOK t := by
        rcases hT.1 with h | h | h
        · rw [hk] at h; exact absurd h.1 (by decide)
        · exact ⟨h.2.2.2.2.1, h.2.2.2.2.2⟩
        · rw [hk] at h; exact absurd h.1 (by decide)
      obtain ⟨hm8, hits⟩ := hreq
      have HIT : Hid (∀ j, j < m.items.length → ∃ o b c : Nat, o ≤ 7 ∧ b ≤ 255 ∧ c ≤ 8 ∧ (itF m.items j).o = o ∧ (itF m.items j).b = b ∧ (itF m.items j).c = c) := fun j hj => by
        have hmem : itF m.items j ∈ m.items := by
          have : itF m.items j = m.items[j] := by simp [itF, List.getD_eq_getElem?_getD, hj]
          rw [this]; exact List.getElem_mem hj
        obtain ⟨h1, h2, h3, h4, h5, h6⟩ := hits _ hmem
        exact ⟨(itF m.items j).o.toNat, (itF m.items j).b.toNat, (itF m.items j).c.toNat, by omega, by omega, by omega, by omega, by omega, by omega⟩
      have HOUT : Hid (LHearOut s (s.anss m.items) tx (.returned (.int .i64 0))) := .inl ⟨m, hT, hk, rfl, rfl⟩
      have own2 := hown.alloc (mBox m.kind m.obj m.blk m.num m.len m.sym ai m.items.length cap m.objs)
      have c6 : (w1.alloc (mBox m.kind m.obj m.blk m.num m.len m.sym ai m.items.length cap m.objs)).cell? ⟨w1.heap.size, 6, none⟩ = some (.slice ai m.items.length cap) := cell_new rfl rfl
      have hMl : w1.heap.size < (w1.alloc (mBox m.kind m.obj m.blk m.num m.len m.sym ai m.items.length cap m.objs)).heap.size := by simp
      clear hits hk hT hown hb1 L1 B2
      go_wp2
      obtain ⟨Mb, hMb⟩ : ∃ B, B = w1.heap.size := ⟨_, rfl⟩
      have hMb' : w1.heap.size = Mb := hMb.symm
      simp only [hMb'] at *
      clear hMb hMb'
      generalize w1.alloc (mBox m.kind m.obj m.blk m.num m.len m.sym ai m.items.length cap m.objs) = w2 at *
      have HIC : Hid (m.items.length = 0 ∨ ∃ ib off, ai = some ⟨ib, off, none⟩ ∧ ib < w2.heap.size ∧ w.heap.size ≤ ib ∧ ∀ i, i < m.items.length → w2.cell? ⟨ib, off + i * 3, none⟩ = some (.int .i64 (itF m.items i).o) ∧ w2.cell? ⟨ib, off + i * 3 + 1, none⟩ = some (.int .i64 (itF m.items i).b) ∧ w2.cell? ⟨ib, off + i * 3 + 2, none⟩ = some (.int .i64 (itF m.items i).c)) := by
        rcases owns_items own2 with h | ⟨b, off, h1, h2, h3⟩
        · exact .inl h
        · exact .inr ⟨b, off, h1, h2, (own2.lt b (by rw [h1]; rfl)).1, h3⟩
      have HC6 : Hid (w2.cell? ⟨Mb, 6, none⟩ = some (.slice ai m.items.length cap)) := c6
      have HL2 : Hid (LI w2 P s (fun x => F x ∧ x < w.heap.size) ao co D) := L2
      clear own2 L2 c6
      obtain ⟨nI, hnI⟩ : ∃ n, n = m.items.length := ⟨_, rfl⟩
      have HNI : Hid (nI = m.items.length) := hnI
      rw [← hnI] at hm8 HC6 HIC HIT
      clear hnI
      go_loopw [7] (fun x wr => ∃ j : Nat, j ≤ nI ∧ x = .int .i64 j ∧ LI wr P (s.anss (m.items.take j)) (fun x => F x ∧ x < w.heap.size) ao co D ∧ Touch w2 wr (fun x => F x ∧ x < w.heap.size)) (fun x _ => nI - (intOf x).toNat)
      case atStart => exact ⟨0, Nat.zero_le _, rfl, HL2.out, Touch.refl _ _⟩
      case round =>
        clear HL2
        obtain ⟨j, hj, rfl, hL, hT⟩ := hrel
        have HTJ : Hid (Touch w2 wr (fun x => F x ∧ x < w.heap.size)) := hT
        have c6 : wr.cell? ⟨Mb, 6, none⟩ = some (.slice ai nI cap) := hT.cell hMl (fun h => by have := h.2; omega) HC6.out
        by_cases hlt : j < nI
        · rcases HIC.out with h0 | ⟨ib, off, rfl, hib, hib2, hic⟩
          · omega
          · obtain ⟨o, b, c, ho, hb, hc, e1, e2, e3⟩ := HIT.out j hlt
            obtain ⟨i1, i2, i3⟩ := hic j hlt
            have nF : ¬ (F ib ∧ ib < w.heap.size) := fun h => by have := h.2; omega
            have y1 : wr.cell? ⟨ib, off + j * 3, none⟩ = some (.int .i64 o) := by rw [← e1]; exact hT.cell hib nF i1
            have y2 : wr.cell? ⟨ib, off + j * 3 + 1, none⟩ = some (.int .i64 b) := by rw [← e2]; exact hT.cell hib nF i2
            have y3 : wr.cell? ⟨ib, off + j * 3 + 2, none⟩ = some (.int .i64 c) := by rw [← e3]; exact hT.cell hib nF i3
            have HAN := lanAnswer (s.anss (m.items.take j)) o b c P _ ao co D wr (anss_ok HS.out _) (anss_ow8 HS.out H8.out _) ho hb hc hL
            have HSU : Hid ((s.anss (m.items.take j)).ans o b c = s.anss (m.items.take (j + 1))) := by
              unfold Hid
              rw [anss_succ s m.items j (by rw [← HNI.out]; exact hlt), e1, e2, e3]
              simp
            rw [HSU.out] at HAN
            clear hic i1 i2 i3 nF hL hT e1 e2 e3
            go_wp2_with fail
            refine HAN.mono ?_
            rintro e w3 ⟨rfl, L3, T3⟩
            have HL3 : Hid (LI w3 P (s.anss (m.items.take (j + 1))) (fun x => F x ∧ x < w.heap.size) ao co D) := L3
            have HT3 : Hid (Touch w2 w3 (fun x => F x ∧ x < w.heap.size)) := HTJ.out.trans T3
            clear HAN L3 T3 c6 y1 y2 y3
            go_wp2
            go_roundw
            case rel => exact ⟨j + 1, by omega, by go_num, HL3.out, HT3.out⟩
            case measure => simp [intOf]; omega
        · have e : j = nI := by omega
          have HL3 : Hid (LI wr P (s.anss m.items) F ao co D) := by
            unfold Hid
            have h := hL.mono (G := F) (fun x hx => hx.1)
            rw [e, HNI.out, List.take_length] at h
            exact h
          have HT3 : Hid (Touch w wr F) := HT2.out.trans (HTJ.out.mono (fun x hx => hx.1))
          clear hL hT
          subst e
          go_wp2
          go_ret
          exact ⟨_, HOUT.out, HL3.out, HT3.out⟩
    · have tk : (m.kind != 2) = true := by simp [hk]
      have HN : Hid (LHearOut s s tx (.returned (.int .i64 6))) := .inr ⟨fun m' h => by
        have e : m' = m := by rw [← Ms.tells_lan h, Ms.tells_lan HTL.out]
        rw [e]; exact hk, rfl, rfl⟩
      have HL2 : Hid (LI (w1.alloc (mBox m.kind m.obj m.blk m.num m.len m.sym ai m.items.length cap m.objs)) P s F ao co D) := L2.mono (fun x hx => hx.1)
      clear hk hT hown hb1 L1 L2 B2
      go_wp2
      go_ret
      exact ⟨s, HN.out, HL2.out, HT2.out⟩
  · have HN : Hid (LHearOut s s tx (.returned (.int .i64 6))) := .inr ⟨fun m h => absurd h (hno m), rfl, rfl⟩
    have B2 : ∀ o, Below w1.heap.size w1 (w1.alloc o) := fun o => (Below.refl _ _).alloc (Nat.le_refl _) _
    have HL2 : Hid (∀ o, LI (w1.alloc o) P s F ao co D) := fun o => (L1.below (B2 o)).mono (fun x hx => hx.1)
    have HT2 : Hid (∀ o, Touch w (w1.alloc o) F) := fun o => HT1.out.below (B2 o)
    clear hno L1 B2 hb1
    go_wp2
    go_ret
    exact ⟨s, HN.out, HL2.out _, HT2.out _⟩
end Sn
end Go.Proofs.Ytkgnmcekeeannab
/-
  The landed sender's calls, as the caller sees them.
-/
namespace Go.Proofs.Ytkgnmcekeeannab
open Go.RowKit Go.Deep
namespace Sn
open Bs
set_option linter.unusedVariables false

set_option maxHeartbeats 1000000 in
theorem rEnqueue (s : LS) (o : ByteArray) (P : Nat) (F : Nat → Prop) (w : World) (hs : LOk s) (ho : o.size ≤ maxLen) (hA : LndAt w P s F) :
    Calls Try.prog 40 #[.pointer (some ⟨P, 0, none⟩), .string o] w fun e w' => e = .returned (.tuple #[.int .i64 (s.enq o).2.1, .int .i64 (s.enq o).2.2]) ∧ LndAt w' P (s.enq o).1 (grow F w w') ∧ Touch w w' F := by
  have H := lanEnqueue s o P F w hs ho hA
  clear hA hs ho
  generalize (s.enq o).1 = S1 at *
  generalize (s.enq o).2.1 = a at *
  generalize (s.enq o).2.2 = b at *
  go_enter Try.func40, Try.ntmps40
  go_wp2_with fail
  refine H.mono ?_
  rintro e w1 ⟨rfl, h1, h2⟩
  have H1 : Hid (LndAt w1 P S1 (grow F w w1)) := h1
  have H2 : Hid (Touch w w1 F) := h2
  clear H h1 h2
  go_wp2
  go_ret2
  exact ⟨rfl, H1.out, H2.out⟩
set_option maxHeartbeats 1000000 in
theorem rNext (s : LS) (P : Nat) (F : Nat → Prop) (ao : Option Addr) (co : Nat) (D : Nat → Nat) (w : World) (hs : LOk2 s) (hA : LI w P s F ao co D) :
    Calls Try.prog 20 #[.pointer (some ⟨P, 0, none⟩)] w fun e w' => ∃ s', NextOut s s' e ∧ LI w' P s' F ao co D ∧ Touch w w' F := by
  have H := lanNext s P F ao co D w hs hA
  have H2 : Calls Try.prog 41 #[.pointer (some ⟨P, 0, none⟩)] w fun e w' => ∃ v, e = .returned (.string v) ∧ Hid (∃ s', NextOut s s' (.returned (.string v)) ∧ LI w' P s' F ao co D ∧ Touch w w' F) := by
    refine H.mono ?_
    rintro e w' ⟨s', ho, h1, h2⟩
    rcases ho with ⟨i, b, hf, rfl, rfl⟩ | ⟨h3, h4, rfl, rfl⟩ | ⟨h3, h4, rfl, rfl⟩
    · exact ⟨_, rfl, _, .inl ⟨i, b, hf, rfl, rfl⟩, h1, h2⟩
    · exact ⟨_, rfl, _, .inr (.inl ⟨h3, h4, rfl, rfl⟩), h1, h2⟩
    · exact ⟨_, rfl, _, .inr (.inr ⟨h3, h4, rfl, rfl⟩), h1, h2⟩
  clear hA hs H
  go_enter Try.func20, Try.ntmps20
  go_wp2_with fail
  refine H2.mono ?_
  rintro e w1 ⟨v, rfl, h1⟩
  clear H2
  go_wp2
  go_ret
  exact h1.out
set_option maxHeartbeats 1000000 in
theorem rHear (s : LS) (tx : ByteArray) (P : Nat) (F : Nat → Prop) (ao : Option Addr) (co : Nat) (D : Nat → Nat) (w : World) (hs : LOk s) (h8 : OW8 s) (ht : tx.size ≤ 1048576) (hA : LI w P s F ao co D) :
    Calls Try.prog 14 #[.pointer (some ⟨P, 0, none⟩), .string tx] w fun e w' => ∃ s', LHearOut s s' tx e ∧ LI w' P s' F ao co D ∧ Touch w w' F := by
  have H := lanHear s tx P F ao co D w hs h8 ht hA
  have H2 : Calls Try.prog 37 #[.pointer (some ⟨P, 0, none⟩), .string tx] w fun e w' => ∃ v : Int, e = .returned (.int .i64 v) ∧ Hid (∃ s', LHearOut s s' tx (.returned (.int .i64 v)) ∧ LI w' P s' F ao co D ∧ Touch w w' F) := by
    refine H.mono ?_
    rintro e w' ⟨s', ho, h1, h2⟩
    rcases ho with ⟨m, h3, h4, rfl, rfl⟩ | ⟨h3, rfl, rfl⟩
    · exact ⟨0, rfl, _, .inl ⟨m, h3, h4, rfl, rfl⟩, h1, h2⟩
    · exact ⟨6, rfl, _, .inr ⟨h3, rfl, rfl⟩, h1, h2⟩
  clear hA hs H
  go_enter Try.func14, Try.ntmps14
  go_wp2_with fail
  refine H2.mono ?_
  rintro e w1 ⟨v, rfl, h1⟩
  clear H2
  go_wp2
  go_ret
  exact h1.out
end Sn
end Go.Proofs.Ytkgnmcekeeannab
/-
  The landed receiver's hearData.
-/
namespace Go.Proofs.Ytkgnmcekeeannab
open Go.RowKit Go.Deep
namespace Sn
open Bs
open Ms (M It txt text ok mV mVm mBox dataOK owns_setCell)
set_option linter.unusedVariables false

theorem LRI.congr {w : World} {P : Nat} {r r' : LR} {F : Nat → Prop} {K : Nat → Slot} {ao : Option Addr} {co : Nat} {D : Nat → Nat} {nv sv : Nat → Nat → Value} (h : LRI w P r F K ao co D nv sv) (e1 : r'.n = r.n) (e2 : r'.kn = r.kn) (e3 : r'.ln = r.ln) (e4 : r'.tk = r.tk) (e5 : ∀ o b, r.live o → b < r.bks o → r'.nm o b = r.nm o b) (e6 : ∀ o b, r.live o → b < r.bks o → r'.sm o b = r.sm o b) : LRI w P r' F K ao co D nv sv := by
  obtain ⟨n, kn, ln, nm, sm, tk⟩ := r
  obtain ⟨n', kn', ln', nm', sm', tk'⟩ := r'
  simp only at e1 e2 e3 e4
  subst e1 e2 e3 e4
  refine ⟨h.row, h.ob, h.bl, fun o b ho hb => ?_, fun o b ho hb => ?_, h.kP, h.ko, h.kb, h.kn, h.ks, h.kF, h.hi, h.tl⟩
  · show World.ownsRow _ 0 _ 1 _ (nm' o b).length (ints (nm' o b))
    have q : nm' o b = nm o b := e5 o b ho hb
    rw [q]; exact h.nu o b ho hb
  · show World.ownsRow _ 0 _ 1 _ (sm' o b).length ((sm' o b).map bv)
    have q : sm' o b = sm o b := e6 o b ho hb
    rw [q]; exact h.sy o b ho hb
/-- data that is refused, data that clashes, data that is taken -/
def Bad (r : Rt) (m : M) : Prop := m.sym.size ≠ r.n.size ∨ r.n.many m.len.toNat m.blk.toNat = 0 ∨ r.n.many m.len.toNat m.blk.toNat + r.n.spare ≤ m.num.toNat
theorem hear_bad {r : Rt} {m : M} (hk : m.kind = 1) (h : Bad r m) : r.hear m = (r, 6) := by
  unfold Bad at h
  unfold Rt.hear
  rw [if_neg (by omega), if_neg (by omega)]
  simp only
  rw [if_pos h]
theorem hear_clash {r : Rt} {m : M} (hk : m.kind = 1) (h : ¬ Bad r m) (hc : 0 < lenIn r.heard m.obj ∧ lenIn r.heard m.obj ≠ m.len) : r.hear m = (r, 9) := by
  unfold Bad at h
  unfold Rt.hear
  rw [if_neg (by omega), if_neg (by omega)]
  simp only
  rw [if_neg h, if_pos hc]
theorem hear_got {r : Rt} {m : M} (hk : m.kind = 1) (h : ¬ Bad r m) (hc : ¬ (0 < lenIn r.heard m.obj ∧ lenIn r.heard m.obj ≠ m.len)) : r.hear m = (r.got m, 0) := by
  unfold Bad at h
  unfold Rt.hear
  rw [if_neg (by omega), if_neg (by omega)]
  simp only
  rw [if_neg h, if_neg hc]
  rfl
/-- what the landed receiver keeps behind data that it takes -/
theorem got_lr {w : World} {P : Nat} {r : Rt} {m : M} {F : Nat → Prop} {K : Nat → Slot} {ao : Option Addr} {co : Nat} {D : Nat → Nat} {nv sv : Nat → Nat → Value} {r1 : LR} (hr : ROk r) (hm : 1 ≤ m.len) (hc : r.len m.obj.toNat = 0 ∨ (r.len m.obj.toNat : Int) = m.len) (ho : 0 ≤ m.obj) (hb : 0 ≤ m.blk)
    (e : r1 = { LR.of r with kn := max r.known (m.obj.toNat + 1), ln := upd1 r.len m.obj.toNat m.len.toNat })
    (h : (r1.live m.obj.toNat → LRI w P (r1.add m.obj.toNat m.blk.toNat (r.n.many m.len.toNat m.blk.toNat) m.num m.sym) F K ao co D nv sv) ∧ (¬ r1.live m.obj.toNat → LRI w P r1 F K ao co D nv sv)) :
    LRI w P (LR.of (r.got m)) F K ao co D nv sv := by
  have el : (r.got m).len = r1.ln := by
    funext o
    rw [got_len hr hm hc ho, e]
    show _ = upd1 r.len m.obj.toNat m.len.toNat o
    unfold upd1
    by_cases h : o = m.obj.toNat
    · rw [if_pos h, if_pos (by omega)]
    · rw [if_neg h, if_neg (by omega)]
  have ek : (r.got m).known = r1.kn := by rw [e]; rfl
  have en : (r.got m).n = r1.n := by rw [e]; rfl
  have et : (r.got m).taken = r1.tk := by rw [e]; rfl
  have enm : ∀ o b, r1.nm o b = (r.come o b).map M.num := fun o b => by rw [e]; rfl
  have esm : ∀ o b, r1.sm o b = symsOf (r.come o b) := fun o b => by rw [e]; rfl
  by_cases hl : r1.live m.obj.toNat
  · have H := h.1 hl
    have cnd : ((r1.nm m.obj.toNat m.blk.toNat).length < r.n.many m.len.toNat m.blk.toNat ∧ m.num ∉ r1.nm m.obj.toNat m.blk.toNat) ↔ ((r.come m.obj.toNat m.blk.toNat).length < r.n.many m.len.toNat m.blk.toNat ∧ ∀ x ∈ r.come m.obj.toNat m.blk.toNat, x.num ≠ m.num) := by
      rw [enm, List.length_map]
      constructor
      · rintro ⟨h1, h2⟩
        exact ⟨h1, fun x hx hn => h2 (List.mem_map.2 ⟨x, hx, hn⟩)⟩
      · rintro ⟨h1, h2⟩
        refine ⟨h1, fun hn => ?_⟩
        obtain ⟨x, hx, hx2⟩ := List.mem_map.1 hn
        exact h2 x hx hx2
    have key : ∀ o b, (r.got m).come o b = if (o = m.obj.toNat ∧ b = m.blk.toNat) ∧ ((r1.nm m.obj.toNat m.blk.toNat).length < r.n.many m.len.toNat m.blk.toNat ∧ m.num ∉ r1.nm m.obj.toNat m.blk.toNat) then r.come o b ++ [m] else r.come o b := fun o b => by
      rw [got_come hr hm hc ho hb]
      by_cases e1 : o = m.obj.toNat ∧ b = m.blk.toNat
      · obtain ⟨rfl, rfl⟩ := e1
        by_cases e2 : (r1.nm m.obj.toNat m.blk.toNat).length < r.n.many m.len.toNat m.blk.toNat ∧ m.num ∉ r1.nm m.obj.toNat m.blk.toNat
        · rw [if_pos ⟨⟨by omega, by omega⟩, cnd.1 e2⟩, if_pos ⟨⟨rfl, rfl⟩, e2⟩]
        · rw [if_neg (fun q => e2 (cnd.2 q.2)), if_neg (fun q => e2 q.2)]
      · rw [if_neg (fun q => e1 ⟨by omega, by omega⟩), if_neg (fun q => e1 q.1)]
    by_cases c : (r1.nm m.obj.toNat m.blk.toNat).length < r.n.many m.len.toNat m.blk.toNat ∧ m.num ∉ r1.nm m.obj.toNat m.blk.toNat
    · have ea : r1.add m.obj.toNat m.blk.toNat (r.n.many m.len.toNat m.blk.toNat) m.num m.sym = r1.adds m.obj.toNat m.blk.toNat m.num m.sym.data.toList := by unfold LR.add; rw [if_pos c]
      rw [ea] at H
      refine H.congr en ek el et (fun o b _ _ => ?_) (fun o b _ _ => ?_)
      · show ((r.got m).come o b).map M.num = updL r1.nm m.obj.toNat m.blk.toNat (r1.nm m.obj.toNat m.blk.toNat ++ [m.num]) o b
        rw [key]
        unfold updL
        by_cases e1 : o = m.obj.toNat ∧ b = m.blk.toNat
        · rw [if_pos ⟨e1, c⟩, if_pos e1, List.map_append, e1.1, e1.2, enm]; rfl
        · rw [if_neg (fun q => e1 q.1), if_neg e1, enm]
      · show symsOf ((r.got m).come o b) = updL r1.sm m.obj.toNat m.blk.toNat (r1.sm m.obj.toNat m.blk.toNat ++ m.sym.data.toList) o b
        rw [key]
        unfold updL
        by_cases e1 : o = m.obj.toNat ∧ b = m.blk.toNat
        · rw [if_pos ⟨e1, c⟩, if_pos e1, e1.1, e1.2, esm]; simp [symsOf]
        · rw [if_neg (fun q => e1 q.1), if_neg e1, esm]
    · have ea : r1.add m.obj.toNat m.blk.toNat (r.n.many m.len.toNat m.blk.toNat) m.num m.sym = r1 := by unfold LR.add; rw [if_neg c]
      rw [ea] at H
      refine H.congr en ek el et (fun o b _ _ => ?_) (fun o b _ _ => ?_)
      · show ((r.got m).come o b).map M.num = _
        rw [key, if_neg (fun q => c q.2), enm]
      · show symsOf ((r.got m).come o b) = _
        rw [key, if_neg (fun q => c q.2), esm]
  · refine (h.2 hl).congr en ek el et (fun o b h1 h2 => ?_) (fun o b h1 h2 => ?_)
    · have : o ≠ m.obj.toNat := fun q => hl (q ▸ h1)
      show ((r.got m).come o b).map M.num = _
      rw [got_come hr hm hc ho hb, if_neg (fun q => this (by omega)), enm]
    · have : o ≠ m.obj.toNat := fun q => hl (q ▸ h1)
      show symsOf ((r.got m).come o b) = _
      rw [got_come hr hm hc ho hb, if_neg (fun q => this (by omega)), esm]
end Sn
end Go.Proofs.Ytkgnmcekeeannab
