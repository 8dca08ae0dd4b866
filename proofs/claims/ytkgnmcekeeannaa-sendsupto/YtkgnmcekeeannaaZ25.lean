import Derived.Test.YtkgnmcekeeannaaZ24
import Derived.Test.YtkgnmcekeeannaaZ20
import Derived.Test.YtkgnmcekeeannaaZ23
namespace Go.Proofs.Ytkgnmcekeeannaa
open Go.RowKit Go.Deep
namespace Ms
open Bs
set_option linter.unusedVariables false

set_option maxRecDepth 100000 in
set_option maxHeartbeats 4000000 in
theorem refRead (s : ByteArray) (w : World) (hs : s.size ≤ 1048576) :
    Calls Try.prog 27 #[.string s] w fun e w' => ReadOut s e w w' ∧ Below w.heap.size w w' := by
  obtain ⟨N, hN⟩ : ∃ N, N = w.heap.size := ⟨_, rfl⟩
  have HG := refGuess s (w.alloc (mBox 0 0 0 0 0 ⟨#[]⟩ none 0 0 0)) hs
  have hgs : (gRef s).sym.size ≤ maxLen := by have := gRef_sym s; unfold maxLen; omega
  have B0 : Below N w (w.alloc (mBox 0 0 0 0 0 ⟨#[]⟩ none 0 0 0)) := by rw [hN]; exact (Below.refl _ _).alloc (Nat.le_refl _) _
  have P0 : (w.alloc (mBox 0 0 0 0 0 ⟨#[]⟩ none 0 0 0)).rowIs N 38 8 (mRow 0 0 0 0 0 ⟨#[]⟩ (.slice none 0 0) 0) := mRow_new hN _ _ _ _ _ _ _ _
  have HTG : Hid (∀ m, Tells s m → gRef s = m) := fun m h => tells_ref h
  have hN' : w.heap.size = N := hN.symm
  unfold ReadOut
  rw [hN']
  clear hN
  go_enter Try.func27, Try.ntmps27
  go_wp2_with fail
  refine HG.mono ?_
  rintro e w1 ⟨⟨ao, cap, rfl, hown⟩, hb1⟩
  clear HG
  have hz : (w.alloc (mBox 0 0 0 0 0 ⟨#[]⟩ none 0 0 0)).heap.size = N + 1 := by simp; omega
  rw [hz] at hown hb1
  have R1 := P0.of_block (hb1.block N (by omega))
  have B1 : Below N w w1 := B0.trans (hb1.mono (by omega))
  have z1 : N + 1 ≤ w1.heap.size := by have := hb1.size; omega
  have HOWN : Hid (w1.ownsRow (N + 1) 40 3 (.slice ao (gRef s).items.length cap) (gRef s).items.length (icells (itF (gRef s).items) (gRef s).items.length)) := hown
  have hn := owns_len hown
  clear P0 B0 hz hb1 hown
  generalize gRef s = g at *
  have B2 : Below N w (w1.alloc (mBox g.kind g.obj g.blk g.num g.len g.sym ao g.items.length cap g.objs)) := B1.alloc (by omega) _
  have R2 := R1.of_block (Below.heap_alloc w1 (mBox g.kind g.obj g.blk g.num g.len g.sym ao g.items.length cap g.objs) N (by omega))
  have O2 : Hid ((w1.alloc (mBox g.kind g.obj g.blk g.num g.len g.sym ao g.items.length cap g.objs)).ownsRow (N + 1) 40 3 (.slice ao g.items.length cap) g.items.length (icells (itF g.items) g.items.length)) := HOWN.out.alloc _
  have HW := refWrite g ao cap (w1.alloc (mBox g.kind g.obj g.blk g.num g.len g.sym ao g.items.length cap g.objs)) hn hgs (owns_items O2.out)
  have RB : (w1.alloc (mBox g.kind g.obj g.blk g.num g.len g.sym ao g.items.length cap g.objs)).rowIs w1.heap.size 38 8 (mRow g.kind g.obj g.blk g.num g.len g.sym (.slice ao g.items.length cap) g.objs) := mRow_new rfl _ _ _ _ _ _ _ _
  have z2 : (w1.alloc (mBox g.kind g.obj g.blk g.num g.len g.sym ao g.items.length cap g.objs)).heap.size = w1.heap.size + 1 := by simp
  clear HOWN R1 B1
  go_wp2_with fail
  refine HW.mono ?_
  rintro e w3 ⟨ho, hb3⟩
  have R3 := R2.of_block (hb3.block N (by omega))
  have RB3 := RB.of_block (hb3.block w1.heap.size (by omega))
  have O3 : Hid (w3.ownsRow (N + 1) 40 3 (.slice ao g.items.length cap) g.items.length (icells (itF g.items) g.items.length)) := owns_below O2.out hb3
  have B3 : Below N w w3 := B2.trans (hb3.mono (by omega))
  clear HW R2 RB O2 B2 hb3 z2
  have y0 : w3.cell? ⟨N, 0, none⟩ = some (.int .i64 0) := R3.cell (by decide)
  have y1 : w3.cell? ⟨N, 1, none⟩ = some (.int .i64 0) := R3.cell (by decide)
  have y2 : w3.cell? ⟨N, 2, none⟩ = some (.int .i64 0) := R3.cell (by decide)
  have y3 : w3.cell? ⟨N, 3, none⟩ = some (.int .i64 0) := R3.cell (by decide)
  have y4 : w3.cell? ⟨N, 4, none⟩ = some (.int .i64 0) := R3.cell (by decide)
  have y5 : w3.cell? ⟨N, 5, none⟩ = some (.string ⟨#[]⟩) := R3.cell (by decide)
  have y6 : w3.cell? ⟨N, 6, none⟩ = some (.slice none 0 0) := R3.cell (by decide)
  have y7 : w3.cell? ⟨N, 7, none⟩ = some (.int .i64 0) := R3.cell (by decide)
  have f0 := R3.frozen 0
  have f1 := R3.frozen 1
  have f2 := R3.frozen 2
  have f3 := R3.frozen 3
  have f4 := R3.frozen 4
  have f5 := R3.frozen 5
  have f6 := R3.frozen 6
  have f7 := R3.frozen 7
  have x0 : w3.cell? ⟨w1.heap.size, 0, none⟩ = some (.int .i64 g.kind) := RB3.cell (by decide)
  have x1 : w3.cell? ⟨w1.heap.size, 1, none⟩ = some (.int .i64 g.obj) := RB3.cell (by decide)
  have x2 : w3.cell? ⟨w1.heap.size, 2, none⟩ = some (.int .i64 g.blk) := RB3.cell (by decide)
  have x3 : w3.cell? ⟨w1.heap.size, 3, none⟩ = some (.int .i64 g.num) := RB3.cell (by decide)
  have x4 : w3.cell? ⟨w1.heap.size, 4, none⟩ = some (.int .i64 g.len) := RB3.cell (by decide)
  have x5 : w3.cell? ⟨w1.heap.size, 5, none⟩ = some (.string g.sym) := RB3.cell (by decide)
  have x6 : w3.cell? ⟨w1.heap.size, 6, none⟩ = some (.slice ao g.items.length cap) := RB3.cell (by decide)
  have x7 : w3.cell? ⟨w1.heap.size, 7, none⟩ = some (.int .i64 g.objs) := RB3.cell (by decide)
  have B8 : ∀ v0 v1 v2 v3 v4 v5 v6 v7, Below N w ((((((((w3.setCell ⟨N, 0, none⟩ v0).setCell ⟨N, 1, none⟩ v1).setCell ⟨N, 2, none⟩ v2).setCell ⟨N, 3, none⟩ v3).setCell ⟨N, 4, none⟩ v4).setCell ⟨N, 5, none⟩ v5).setCell ⟨N, 6, none⟩ v6).setCell ⟨N, 7, none⟩ v7) := fun v0 v1 v2 v3 v4 v5 v6 v7 =>
    (((((((B3.setCell (Nat.le_refl _) _).setCell (Nat.le_refl _) _).setCell (Nat.le_refl _) _).setCell (Nat.le_refl _) _).setCell (Nat.le_refl _) _).setCell (Nat.le_refl _) _).setCell (Nat.le_refl _) _).setCell (Nat.le_refl _) _
  have HB8 : Hid (∀ v0 v1 v2 v3 v4 v5 v6 v7, Below N w ((((((((w3.setCell ⟨N, 0, none⟩ v0).setCell ⟨N, 1, none⟩ v1).setCell ⟨N, 2, none⟩ v2).setCell ⟨N, 3, none⟩ v3).setCell ⟨N, 4, none⟩ v4).setCell ⟨N, 5, none⟩ v5).setCell ⟨N, 6, none⟩ v6).setCell ⟨N, 7, none⟩ v7)) := B8
  clear R3 RB3 B8 B3
  rcases ho with ⟨hok, rfl⟩ | ⟨hno, rfl⟩
  · have HOK : Hid (ok g) := hok
    clear hok
    by_cases ht : s.data.toList = text g
    · have HT : Hid (s = txt (text g)) := by unfold Hid; rw [← ht]; rfl
      have HTE : Hid (s.data.toList = text g) := ht
      have tt : ((txt (text g)).toList == s.toList) = true := by rw [← HT.out]; simp
      clear ht
      generalize txt (text g) = T at *
      go_wp2
      refine bodyPost_ret (v := .tuple #[mVm g ao cap, .int .i64 0]) (by simp [results, Try.results27, go_sem, y0, y1, y2, y3, y4, y5, y6, y7]) rfl ?_
      have hne : (Value.slice ao g.items.length cap).ownBlock ≠ some N := fun e => by have := (O3.out.lt _ e).1; omega
      exact ⟨.inl ⟨g, ao, cap, ⟨HOK.out, HTE.out⟩, rfl, owns_mono (owns_setCell (owns_setCell (owns_setCell (owns_setCell (owns_setCell (owns_setCell (owns_setCell (owns_setCell O3.out hne) hne) hne) hne) hne) hne) hne) hne) (show N ≤ N + 1 by omega)⟩, HB8.out _ _ _ _ _ _ _ _⟩
    · have HN : Hid (∀ m, ¬ Tells s m) := fun m h => by have e := HTG.out m h; rw [e] at ht; exact ht h.2
      have tt : ((txt (text g)).toList == s.toList) = false := by
        rw [beq_eq_false_iff_ne]
        intro e
        rw [ByteArray.toList_eq, ByteArray.toList_eq, txt_data] at e
        exact ht e.symm
      clear ht
      generalize txt (text g) = T at *
      go_wp2
      refine bodyPost_ret (v := .tuple #[mV 0 0 0 0 0 ⟨#[]⟩ none 0 0 0, .int .i64 6]) (by simp [results, Try.results27, go_sem, y0, y1, y2, y3, y4, y5, y6, y7]) rfl ?_
      exact ⟨.inr ⟨HN.out, rfl⟩, HB8.out _ _ _ _ _ _ _ _⟩
  · have HN : Hid (∀ m, ¬ Tells s m) := fun m h => by have e := HTG.out m h; rw [e] at hno; exact hno h.1
    clear hno
    go_wp2
    refine bodyPost_ret (v := .tuple #[mV 0 0 0 0 0 ⟨#[]⟩ none 0 0 0, .int .i64 6]) (by simp [results, Try.results27, go_sem, y0, y1, y2, y3, y4, y5, y6, y7]) rfl ?_
    exact ⟨.inr ⟨HN.out, rfl⟩, HB8.out _ _ _ _ _ _ _ _⟩
end Ms
end Go.Proofs.Ytkgnmcekeeannaa
namespace Go.Proofs.Ytkgnmcekeeannaa
open Go.RowKit Go.Deep
namespace Sn
open Bs
open Ms (txt text ok M It mV mVm mBox mRow mRow_new itF itOK ItemsAt Tells ReadOut refRead owns_setCell owns_items icells)
set_option linter.unusedVariables false

theorem least_or_none (l : List Db) : (∃ i, i < l.length ∧ (∀ j, j < i → (l.getD j ⟨0, 0, 0, 0⟩).owes = 0) ∧ 0 < (l.getD i ⟨0, 0, 0, 0⟩).owes) ∨ ∀ j, j < l.length → (l.getD j ⟨0, 0, 0, 0⟩).owes = 0 := by
  have key : ∀ n, n ≤ l.length → (∃ i, i < n ∧ (∀ j, j < i → (l.getD j ⟨0, 0, 0, 0⟩).owes = 0) ∧ 0 < (l.getD i ⟨0, 0, 0, 0⟩).owes) ∨ ∀ j, j < n → (l.getD j ⟨0, 0, 0, 0⟩).owes = 0 := by
    intro n
    induction n with
    | zero => intro _; exact .inr (fun j hj => by omega)
    | succ n ih =>
      intro hn
      rcases ih (by omega) with ⟨i, h1, h2⟩ | h
      · exact .inl ⟨i, by omega, h2⟩
      · by_cases e : (l.getD n ⟨0, 0, 0, 0⟩).owes = 0
        · exact .inr (fun j hj => by
            by_cases e2 : j = n
            · rw [e2]; exact e
            · exact h j (by omega))
        · exact .inl ⟨n, by omega, h, by omega⟩
  exact key l.length (Nat.le_refl _)
theorem refNext (s : St) (P : Nat) (F : Nat → Prop) (w : World) (hs : SOk2 s) (hA : SndAt w P s F) :
    Calls Try.prog 58 #[.pointer (some ⟨P, 0, none⟩)] w fun e w' => e = .returned (.string (nxt s).2) ∧ SndAt w' P (nxt s).1 (grow F w w') ∧ Touch w w' F := by
  obtain ⟨ao, co, ad, cd, hI⟩ := hA
  rcases least_or_none s.debts with ⟨i, h1, h2, h3⟩ | h
  · rw [nxt_owed (owing_some h1 h2 h3)]
    exact next_owed s P F w hs ao co ad cd i h1 h2 h3 hI
  · rw [nxt_rest (owing_none h)]
    exact next_rest s P F w hs ao co ad cd h hI

/-! ### Hear -/
def mixD (f : Db → Db) (l : List Db) (i : Nat) : List Db := (l.take i).map f ++ l.drop i
theorem mixD_zero (f : Db → Db) (l : List Db) : mixD f l 0 = l := by simp [mixD]
theorem mixD_all (f : Db → Db) (l : List Db) : mixD f l l.length = l.map f := by simp [mixD]
theorem mixD_length (f : Db → Db) (l : List Db) (i : Nat) (h : i ≤ l.length) : (mixD f l i).length = l.length := by simp [mixD]; omega
theorem mixD_at (f : Db → Db) (l : List Db) (i : Nat) (h : i < l.length) (d0 : Db) : (mixD f l i).getD i d0 = l.getD i d0 := by
  have e : (List.map f (List.take i l)).length = i := by simp; omega
  rw [mixD, List.getD_eq_getElem?_getD, List.getD_eq_getElem?_getD, List.getElem?_append_right (by omega), e, Nat.sub_self, List.getElem?_drop, Nat.add_zero]
theorem mixD_succ (f : Db → Db) (l : List Db) (i : Nat) (h : i < l.length) (d0 : Db) : (mixD f l i).set i (f (l.getD i d0)) = mixD f l (i + 1) := by
  have e : (List.map f (List.take i l)).length = i := by simp; omega
  have hg : l.getD i d0 = l[i] := by simp [List.getD_eq_getElem?_getD, h]
  rw [hg]
  unfold mixD
  rw [List.set_append, if_neg (by omega), e, Nat.sub_self, List.drop_eq_getElem_cons h, List.set_cons_zero, List.take_succ_eq_append_getElem h, List.map_append, List.append_assoc]
  rfl
theorem mixD_same (f : Db → Db) (l : List Db) (i : Nat) (h : i < l.length) (d0 : Db) (hf : f (l.getD i d0) = l.getD i d0) : mixD f l (i + 1) = mixD f l i := by
  rw [← mixD_succ f l i h d0, hf]
  have hg : (mixD f l i).getD i d0 = l.getD i d0 := mixD_at f l i h d0
  rw [← hg]
  have hl : i < (mixD f l i).length := by rw [mixD_length f l i (by omega)]; exact h
  apply List.ext_getElem?
  intro j
  by_cases ej : i = j
  · subst ej
    rw [List.getElem?_set_self hl]
    simp [List.getD_eq_getElem?_getD, hl]
  · rw [List.getElem?_set_ne ej]
theorem due_ob (s : St) (t : It) (d : Db) : (due s t d).o = d.o ∧ (due s t d).b = d.b := by
  unfold due
  split
  · exact ⟨rfl, rfl⟩
  · simp only []
    split <;> split <;> exact ⟨rfl, rfl⟩
/-- dues up to item j -/
def duesTo (s : St) (l : List It) (j : Nat) : List Db := (l.take j).foldl (fun ds t => ds.map (due s t)) s.debts
theorem duesTo_zero (s : St) (l : List It) : duesTo s l 0 = s.debts := rfl
theorem duesTo_all (s : St) (l : List It) : duesTo s l l.length = dues s l := by unfold duesTo dues; rw [List.take_length]
theorem duesTo_succ (s : St) (l : List It) (j : Nat) (h : j < l.length) : duesTo s l (j + 1) = (duesTo s l j).map (due s (itF l j)) := by
  have e : itF l j = l[j] := by simp [itF, List.getD_eq_getElem?_getD, h]
  unfold duesTo
  rw [List.take_succ_eq_append_getElem h, List.foldl_append, e]
  rfl
/-- the blocks are the same ones -/
def SameB (s : St) (l : List Db) : Prop := l.length = s.debts.length ∧ ∀ i, i < s.debts.length → (l.getD i ⟨0, 0, 0, 0⟩).o = (debtOf s i).o ∧ (l.getD i ⟨0, 0, 0, 0⟩).b = (debtOf s i).b
theorem SameB.map {s : St} {l : List Db} (h : SameB s l) (t : It) : SameB s (l.map (due s t)) := by
  refine ⟨by rw [List.length_map]; exact h.1, fun i hi => ?_⟩
  have hl : i < l.length := by rw [h.1]; exact hi
  have e : (l.map (due s t)).getD i ⟨0, 0, 0, 0⟩ = due s t (l.getD i ⟨0, 0, 0, 0⟩) := by simp [List.getD_eq_getElem?_getD, hl]
  rw [e, (due_ob s t _).1, (due_ob s t _).2]
  exact h.2 i hi
theorem SameB.duesTo (s : St) (l : List It) : ∀ j, j ≤ l.length → SameB s (duesTo s l j)
  | 0, _ => ⟨rfl, fun i _ => ⟨rfl, rfl⟩⟩
  | j + 1, h => by rw [duesTo_succ s l j (by omega)]; exact (SameB.duesTo s l j (by omega)).map _
end Sn
end Go.Proofs.Ytkgnmcekeeannaa
/-
  What the calls keep, with a count of the calls that turn or send.
-/
namespace Go.Proofs.Ytkgnmcekeeannaa
namespace Sn
open Ms (It)

structure SOkC (s : St) (c : Nat) : Prop where
  base : SOk s
  deb : ∀ d ∈ s.debts, d.o < s.objs.length ∧ d.b ≤ 255 ∧ 0 < s.n.many (objOf s d.o).size d.b ∧ d.owes ≤ 8 ∧ d.turn ≤ c
  snt : s.sent ≤ c
theorem debtOf_mem (s : St) (i : Nat) (h : i < s.debts.length) : debtOf s i ∈ s.debts := by
  have : debtOf s i = s.debts[i] := by simp [debtOf, List.getD_eq_getElem?_getD, h]
  rw [this]; exact List.getElem_mem h
theorem SOkC.ok2 {s : St} {c : Nat} (h : SOkC s c) (hc : c ≤ 4611686018427387904) : SOk2 s :=
  ⟨h.base, fun i hi => by
    obtain ⟨h1, h2, h3, h4, h5⟩ := h.deb _ (debtOf_mem s i hi)
    exact ⟨h1, h2, h3, h4, by omega⟩, by have := h.snt; omega⟩
theorem SOkC.mono {s : St} {c c' : Nat} (h : SOkC s c) (hc : c ≤ c') : SOkC s c' :=
  ⟨h.base, fun d hd => by
    obtain ⟨h1, h2, h3, h4, h5⟩ := h.deb d hd
    exact ⟨h1, h2, h3, h4, by omega⟩, by have := h.snt; omega⟩
theorem SOkC.new {n : Nm} (hn : n.ok) : SOkC ⟨n, [], [], 0⟩ 0 :=
  ⟨⟨hn, by simp, by simp, by simp⟩, by simp, Nat.le_refl _⟩
theorem blocks_le256 (n : Nm) (hn : n.ok) (len : Nat) (h : len ≤ 256) : n.blocks len ≤ 256 := by
  have ha := all_le n hn len h
  have hb := hn.2.2.1
  unfold Nm.blocks
  by_cases h0 : n.all len = 0
  · rw [h0, Nat.zero_add, Nat.div_eq_of_lt (by omega)]; omega
  · rw [Nat.div_le_iff_le_mul (by omega)]
    have : 256 * n.block ≥ 256 := Nat.le_mul_of_pos_right _ (by omega)
    have e : n.all len * n.block ≥ n.all len := Nat.le_mul_of_pos_right _ (by omega)
    omega
theorem many_pos (n : Nm) (hn : n.ok) (len b : Nat) (h : b < n.blocks len) : 0 < n.many len b := by
  have hb := hn.2.2.1
  unfold Nm.blocks at h
  have h1 := (Nat.le_div_iff_mul_le (by omega : 0 < n.block)).1 (Nat.succ_le_of_lt h)
  rw [Nat.succ_mul] at h1
  unfold Nm.many
  omega
theorem objOf_app (s : St) (o : ByteArray) (ds : List Db) (i : Nat) (h : i < s.objs.length) : objOf ⟨s.n, s.objs ++ [o], ds, s.sent⟩ i = objOf s i := by
  simp [objOf, List.getD_eq_getElem?_getD, List.getElem?_append_left h]
theorem objOf_last (s : St) (o : ByteArray) (ds : List Db) : objOf ⟨s.n, s.objs ++ [o], ds, s.sent⟩ s.objs.length = o := by
  simp [objOf, List.getD_eq_getElem?_getD]
theorem SOkC.enq {s : St} {c : Nat} (h : SOkC s c) (o : ByteArray) : SOkC (enq s o).1 c := by
  unfold Sn.enq
  split
  · exact h
  · split
    · exact h
    · rename_i h1 h2
      have hl := h.base.len
      have hd := h.base.dl
      have hbk := blocks_le256 s.n h.base.nok o.size (by omega)
      refine ⟨⟨h.base.nok, by simp; omega, ?_, ?_⟩, ?_, h.snt⟩
      · intro x hx
        rcases List.mem_append.1 hx with hx | hx
        · exact h.base.sz x hx
        · rw [List.mem_singleton.1 hx]; omega
      · simp; omega
      · intro d hdm
        rcases List.mem_append.1 hdm with hx | hx
        · obtain ⟨a1, a2, a3, a4, a5⟩ := h.deb d hx
          refine ⟨by simp; omega, a2, ?_, a4, a5⟩
          show 0 < s.n.many (objOf ⟨s.n, s.objs ++ [o], _, s.sent⟩ d.o).size d.b
          rw [objOf_app s o _ _ a1]; exact a3
        · obtain ⟨b, hb, rfl⟩ := List.mem_map.1 hx
          rw [List.mem_range] at hb
          refine ⟨by simp, by show b ≤ 255; omega, ?_, by simp, by simp⟩
          show 0 < s.n.many (objOf ⟨s.n, s.objs ++ [o], _, s.sent⟩ s.objs.length).size b
          rw [objOf_last s o]; exact many_pos s.n h.base.nok _ _ hb
theorem SOkC.nxt {s : St} {c : Nat} (h : SOkC s c) : SOkC (nxt s).1 (c + 1) := by
  unfold Sn.nxt
  split
  · rename_i i hi
    have hlt : i < s.debts.length := by
      unfold owing at hi
      rw [List.findIdx?_eq_some_iff_getElem] at hi
      exact hi.1
    refine ⟨⟨h.base.nok, h.base.len, h.base.sz, by simpa using h.base.dl⟩, ?_, by have := h.snt; simp; omega⟩
    intro d hd
    rcases List.mem_or_eq_of_mem_set hd with hx | hx
    · obtain ⟨a1, a2, a3, a4, a5⟩ := h.deb d hx
      exact ⟨a1, a2, a3, a4, by omega⟩
    · obtain ⟨a1, a2, a3, a4, a5⟩ := h.deb _ (debtOf_mem s i hlt)
      subst hx
      exact ⟨a1, a2, a3, by show (debtOf s i).owes - 1 ≤ 8; omega, by show (debtOf s i).turn + 1 ≤ c + 1; omega⟩
  · split
    · exact ⟨⟨h.base.nok, h.base.len, h.base.sz, h.base.dl⟩, fun d hd => by
        obtain ⟨a1, a2, a3, a4, a5⟩ := h.deb d hd
        exact ⟨a1, a2, a3, a4, by omega⟩, by have := h.snt; show s.sent + 1 ≤ c + 1; omega⟩
    · exact h.mono (by omega)
theorem due_keeps (s : St) (hn : s.n.ok) (t : It) (d : Db) (h : d.owes ≤ 8) : (due s t d).o = d.o ∧ (due s t d).b = d.b ∧ (due s t d).turn = d.turn ∧ (due s t d).owes ≤ 8 := by
  have hk := many_le s.n (objOf s d.o).size d.b
  have hb := hn.2.2.2.1
  by_cases h1 : (d.o : Int) ≠ t.o ∨ (0 < t.c ∧ (d.b : Int) ≠ t.b)
  · unfold due; rw [if_pos h1]; exact ⟨rfl, rfl, rfl, h⟩
  · have e : ∃ n : Nat, n ≤ 8 ∧ due s t d = if d.owes < n then { d with owes := n } else d := by
      refine ⟨if 0 < t.c ∧ t.c < ((s.n.many (objOf s d.o).size d.b : Nat) : Int) then t.c.toNat else s.n.many (objOf s d.o).size d.b, ?_, ?_⟩
      · split <;> omega
      · unfold due; rw [if_neg h1]
    obtain ⟨n, hn8, e⟩ := e
    rw [e]
    split
    · exact ⟨rfl, rfl, rfl, hn8⟩
    · exact ⟨rfl, rfl, rfl, h⟩
theorem dues_fold (s : St) (c : Nat) (hn : s.n.ok) (l : List It) : ∀ ds : List Db,
    (∀ d ∈ ds, d.o < s.objs.length ∧ d.b ≤ 255 ∧ 0 < s.n.many (objOf s d.o).size d.b ∧ d.owes ≤ 8 ∧ d.turn ≤ c) →
    (l.foldl (fun ds t => ds.map (due s t)) ds).length = ds.length ∧
    ∀ d ∈ l.foldl (fun ds t => ds.map (due s t)) ds, d.o < s.objs.length ∧ d.b ≤ 255 ∧ 0 < s.n.many (objOf s d.o).size d.b ∧ d.owes ≤ 8 ∧ d.turn ≤ c := by
  induction l with
  | nil => intro ds h; exact ⟨rfl, h⟩
  | cons t l ih =>
    intro ds h
    have := ih (ds.map (due s t)) (by
      intro d hd
      obtain ⟨x, hx, rfl⟩ := List.mem_map.1 hd
      obtain ⟨a1, a2, a3, a4, a5⟩ := h x hx
      obtain ⟨k1, k2, k3, k4⟩ := due_keeps s hn t x a4
      rw [k1, k2, k3]
      exact ⟨a1, a2, a3, k4, a5⟩)
    rw [List.length_map] at this
    exact this
theorem SOkC.dues {s : St} {c : Nat} (h : SOkC s c) (l : List It) : SOkC ⟨s.n, s.objs, dues s l, s.sent⟩ c := by
  have hf := dues_fold s c h.base.nok l s.debts h.deb
  exact ⟨⟨h.base.nok, h.base.len, h.base.sz, by show (Sn.dues s l).length ≤ _; unfold Sn.dues; rw [hf.1]; exact h.base.dl⟩, hf.2, h.snt⟩
end Sn
end Go.Proofs.Ytkgnmcekeeannaa
