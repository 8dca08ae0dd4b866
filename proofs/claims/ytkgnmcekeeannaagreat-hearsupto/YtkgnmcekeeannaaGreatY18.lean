import Derived.Test.YtkgnmcekeeannaaGreatY17
import Derived.Test.YtkgnmcekeeannaaGreatY08
/-
  What the calls keep, with a count of the calls that turn or send.
-/
namespace Go.Proofs.YtkgnmcekeeannaaGreat
namespace Sn
open Ms (It)

structure SOkC (s : St) (c : Nat) : Prop where
  base : SOk s
  deb : ∀ d ∈ s.debts, d.o < s.objs.length ∧ d.b ≤ 255 ∧ 0 < s.n.many (objOf s d.o).size d.b ∧ d.owes ≤ 8 ∧ d.turn ≤ c
  snt : s.sent ≤ c
theorem debtOf_mem (s : St) (i : Nat) (h : i < s.debts.length) : debtOf s i ∈ s.debts := by
  have : debtOf s i = s.debts[i] := by simp [debtOf, List.getD_eq_getElem?_getD, h]
  rw [this]; exact List.getElem_mem h
theorem SOkC.ok2 {s : St} {c : Nat} (h : SOkC s c) (hc : c ≤ 4611686018427387904) : SOk2 s :=
  ⟨h.base, fun i hi => by
    obtain ⟨h1, h2, h3, h4, h5⟩ := h.deb _ (debtOf_mem s i hi)
    exact ⟨h1, h2, h3, h4, by omega⟩, by have := h.snt; omega⟩
theorem SOkC.mono {s : St} {c c' : Nat} (h : SOkC s c) (hc : c ≤ c') : SOkC s c' :=
  ⟨h.base, fun d hd => by
    obtain ⟨h1, h2, h3, h4, h5⟩ := h.deb d hd
    exact ⟨h1, h2, h3, h4, by omega⟩, by have := h.snt; omega⟩
theorem SOkC.new {n : Nm} (hn : n.ok) : SOkC ⟨n, [], [], 0⟩ 0 :=
  ⟨⟨hn, by simp, by simp, by simp⟩, by simp, Nat.le_refl _⟩
theorem blocks_le256 (n : Nm) (hn : n.ok) (len : Nat) (h : len ≤ 256) : n.blocks len ≤ 256 := by
  have ha := all_le n hn len h
  have hb := hn.2.2.1
  unfold Nm.blocks
  by_cases h0 : n.all len = 0
  · rw [h0, Nat.zero_add, Nat.div_eq_of_lt (by omega)]; omega
  · rw [Nat.div_le_iff_le_mul (by omega)]
    have : 256 * n.block ≥ 256 := Nat.le_mul_of_pos_right _ (by omega)
    have e : n.all len * n.block ≥ n.all len := Nat.le_mul_of_pos_right _ (by omega)
    omega
theorem many_pos (n : Nm) (hn : n.ok) (len b : Nat) (h : b < n.blocks len) : 0 < n.many len b := by
  have hb := hn.2.2.1
  unfold Nm.blocks at h
  have h1 := (Nat.le_div_iff_mul_le (by omega : 0 < n.block)).1 (Nat.succ_le_of_lt h)
  rw [Nat.succ_mul] at h1
  unfold Nm.many
  omega
theorem objOf_app (s : St) (o : ByteArray) (ds : List Db) (i : Nat) (h : i < s.objs.length) : objOf ⟨s.n, s.objs ++ [o], ds, s.sent⟩ i = objOf s i := by
  simp [objOf, List.getD_eq_getElem?_getD, List.getElem?_append_left h]
theorem objOf_last (s : St) (o : ByteArray) (ds : List Db) : objOf ⟨s.n, s.objs ++ [o], ds, s.sent⟩ s.objs.length = o := by
  simp [objOf, List.getD_eq_getElem?_getD]
theorem SOkC.enq {s : St} {c : Nat} (h : SOkC s c) (o : ByteArray) : SOkC (enq s o).1 c := by
  unfold Sn.enq
  split
  · exact h
  · split
    · exact h
    · rename_i h1 h2
      have hl := h.base.len
      have hd := h.base.dl
      have hbk := blocks_le256 s.n h.base.nok o.size (by omega)
      refine ⟨⟨h.base.nok, by simp; omega, ?_, ?_⟩, ?_, h.snt⟩
      · intro x hx
        rcases List.mem_append.1 hx with hx | hx
        · exact h.base.sz x hx
        · rw [List.mem_singleton.1 hx]; omega
      · simp; omega
      · intro d hdm
        rcases List.mem_append.1 hdm with hx | hx
        · obtain ⟨a1, a2, a3, a4, a5⟩ := h.deb d hx
          refine ⟨by simp; omega, a2, ?_, a4, a5⟩
          show 0 < s.n.many (objOf ⟨s.n, s.objs ++ [o], _, s.sent⟩ d.o).size d.b
          rw [objOf_app s o _ _ a1]; exact a3
        · obtain ⟨b, hb, rfl⟩ := List.mem_map.1 hx
          rw [List.mem_range] at hb
          refine ⟨by simp, by show b ≤ 255; omega, ?_, by simp, by simp⟩
          show 0 < s.n.many (objOf ⟨s.n, s.objs ++ [o], _, s.sent⟩ s.objs.length).size b
          rw [objOf_last s o]; exact many_pos s.n h.base.nok _ _ hb
theorem SOkC.nxt {s : St} {c : Nat} (h : SOkC s c) : SOkC (nxt s).1 (c + 1) := by
  unfold Sn.nxt
  split
  · rename_i i hi
    have hlt : i < s.debts.length := by
      unfold owing at hi
      rw [List.findIdx?_eq_some_iff_getElem] at hi
      exact hi.1
    refine ⟨⟨h.base.nok, h.base.len, h.base.sz, by simpa using h.base.dl⟩, ?_, by have := h.snt; simp; omega⟩
    intro d hd
    rcases List.mem_or_eq_of_mem_set hd with hx | hx
    · obtain ⟨a1, a2, a3, a4, a5⟩ := h.deb d hx
      exact ⟨a1, a2, a3, a4, by omega⟩
    · obtain ⟨a1, a2, a3, a4, a5⟩ := h.deb _ (debtOf_mem s i hlt)
      subst hx
      exact ⟨a1, a2, a3, by show (debtOf s i).owes - 1 ≤ 8; omega, by show (debtOf s i).turn + 1 ≤ c + 1; omega⟩
  · split
    · exact ⟨⟨h.base.nok, h.base.len, h.base.sz, h.base.dl⟩, fun d hd => by
        obtain ⟨a1, a2, a3, a4, a5⟩ := h.deb d hd
        exact ⟨a1, a2, a3, a4, by omega⟩, by have := h.snt; show s.sent + 1 ≤ c + 1; omega⟩
    · exact h.mono (by omega)
theorem due_keeps (s : St) (hn : s.n.ok) (t : It) (d : Db) (h : d.owes ≤ 8) : (due s t d).o = d.o ∧ (due s t d).b = d.b ∧ (due s t d).turn = d.turn ∧ (due s t d).owes ≤ 8 := by
  have hk := many_le s.n (objOf s d.o).size d.b
  have hb := hn.2.2.2.1
  by_cases h1 : (d.o : Int) ≠ t.o ∨ (0 < t.c ∧ (d.b : Int) ≠ t.b)
  · unfold due; rw [if_pos h1]; exact ⟨rfl, rfl, rfl, h⟩
  · have e : ∃ n : Nat, n ≤ 8 ∧ due s t d = if d.owes < n then { d with owes := n } else d := by
      refine ⟨if 0 < t.c ∧ t.c < ((s.n.many (objOf s d.o).size d.b : Nat) : Int) then t.c.toNat else s.n.many (objOf s d.o).size d.b, ?_, ?_⟩
      · split <;> omega
      · unfold due; rw [if_neg h1]
    obtain ⟨n, hn8, e⟩ := e
    rw [e]
    split
    · exact ⟨rfl, rfl, rfl, hn8⟩
    · exact ⟨rfl, rfl, rfl, h⟩
theorem dues_fold (s : St) (c : Nat) (hn : s.n.ok) (l : List It) : ∀ ds : List Db,
    (∀ d ∈ ds, d.o < s.objs.length ∧ d.b ≤ 255 ∧ 0 < s.n.many (objOf s d.o).size d.b ∧ d.owes ≤ 8 ∧ d.turn ≤ c) →
    (l.foldl (fun ds t => ds.map (due s t)) ds).length = ds.length ∧
    ∀ d ∈ l.foldl (fun ds t => ds.map (due s t)) ds, d.o < s.objs.length ∧ d.b ≤ 255 ∧ 0 < s.n.many (objOf s d.o).size d.b ∧ d.owes ≤ 8 ∧ d.turn ≤ c := by
  induction l with
  | nil => intro ds h; exact ⟨rfl, h⟩
  | cons t l ih =>
    intro ds h
    have := ih (ds.map (due s t)) (by
      intro d hd
      obtain ⟨x, hx, rfl⟩ := List.mem_map.1 hd
      obtain ⟨a1, a2, a3, a4, a5⟩ := h x hx
      obtain ⟨k1, k2, k3, k4⟩ := due_keeps s hn t x a4
      rw [k1, k2, k3]
      exact ⟨a1, a2, a3, k4, a5⟩)
    rw [List.length_map] at this
    exact this
theorem SOkC.dues {s : St} {c : Nat} (h : SOkC s c) (l : List It) : SOkC ⟨s.n, s.objs, dues s l, s.sent⟩ c := by
  have hf := dues_fold s c h.base.nok l s.debts h.deb
  exact ⟨⟨h.base.nok, h.base.len, h.base.sz, by show (Sn.dues s l).length ≤ _; unfold Sn.dues; rw [hf.1]; exact h.base.dl⟩, hf.2, h.snt⟩
end Sn
end Go.Proofs.YtkgnmcekeeannaaGreat
/-
  The landed sender's firstOwed.
-/
namespace Go.Proofs.YtkgnmcekeeannaaGreat
open Go.RowKit Go.Deep
namespace Sn
open Bs
set_option linter.unusedVariables false

/-- what firstOwed answers -/
def FirstOut (s : LS) (e : Ending) : Prop :=
  (∃ i b, i < s.objs.length ∧ b < s.blk i ∧ 0 < s.ow i b ∧ (∀ b', b' < b → s.ow i b' = 0) ∧ (∀ i', i' < i → ∀ b', b' < s.blk i' → s.ow i' b' = 0) ∧ e = .returned (.tuple #[.agg #[.int .i64 i, .int .i64 b, .int .i64 0], .bool true])) ∨
  ((∀ i', i' < s.objs.length → ∀ b', b' < s.blk i' → s.ow i' b' = 0) ∧ e = .returned (.tuple #[.agg #[.int .i64 0, .int .i64 0, .int .i64 0], .bool false]))
theorem LI.owes {w : World} {P : Nat} {s : LS} {F : Nat → Prop} {ao : Option Addr} {co : Nat} {D : Nat → Nat} (h : LI w P s F ao co D) {i b : Nat} (hi : i < s.objs.length) (hb : b < s.blk i) :
    w.cell? ⟨D i, b * 2, none⟩ = some (.int .i64 (s.ow i b : Nat)) ∧ w.cell? ⟨D i, b * 2 + 1, none⟩ = some (.int .i64 (s.tu i b : Nat)) := by
  have h0 := (h.db i hi).cell (i := b * 2) (by omega)
  have h1 := (h.db i hi).cell (i := b * 2 + 1) (by omega)
  unfold dRow at h0 h1
  rw [if_pos (by omega), show b * 2 / 2 = b from by omega] at h0
  rw [if_neg (by omega), show (b * 2 + 1) / 2 = b from by omega] at h1
  exact ⟨h0, h1⟩
theorem blk_le (s : LS) (hs : LOk s) (i : Nat) (hi : i < s.objs.length) : s.blk i ≤ 256 := blocks_le s.n hs.nok _ (hs.sz i hi).2

set_option maxRecDepth 100000 in
set_option maxHeartbeats 4000000 in
theorem lanFirst (s : LS) (P : Nat) (F : Nat → Prop) (ao : Option Addr) (co : Nat) (D : Nat → Nat) (w : World) (hs : LOk s) (hA : LI w P s F ao co D) :
    Calls Tryz.prog 53 #[.pointer (some ⟨P, 0, none⟩)] w fun e w' => FirstOut s e ∧ Below w.heap.size w w' := by
  have B0 : Below w.heap.size w (w.alloc (.cells #[.int .i64 0, .int .i64 0, .int .i64 0] 79)) := (Below.refl _ _).alloc (Nat.le_refl _) _
  have R0 := World.rowIs_alloc w #[.int .i64 0, .int .i64 0, .int .i64 0] 79 (fun _ => .int .i64 0) (fun i hi => by
    match i, hi with
    | 0, _ => rfl
    | 1, _ => rfl
    | 2, _ => rfl)
  obtain ⟨W, hW⟩ : ∃ W, W = w.alloc (.cells #[.int .i64 0, .int .i64 0, .int .i64 0] 79) := ⟨_, rfl⟩
  have hA0 : LI W P s F ao co D := by rw [hW]; exact hA.below B0
  rw [← hW] at B0 R0
  have hlen := hs.len
  have HBS : Hid (∀ i, i < s.objs.length → s.blk i ≤ 256) := fun i hi => blk_le s hs i hi
  obtain ⟨c0, c1, c2, c3, c4, c5, c6⟩ := hA0.cells
  have z0 : W.cell? ⟨w.heap.size, 0, none⟩ = some (.int .i64 0) := R0.cell (by decide)
  have z1 : W.cell? ⟨w.heap.size, 1, none⟩ = some (.int .i64 0) := R0.cell (by decide)
  have z2 : W.cell? ⟨w.heap.size, 2, none⟩ = some (.int .i64 0) := R0.cell (by decide)
  have f0 := R0.frozen 0
  have f1 := R0.frozen 1
  have f2 := R0.frozen 2
  have HA : Hid (LI W P s F ao co D) := hA0
  have HB : Hid (∀ a b c, Below w.heap.size w (((W.setCell ⟨w.heap.size, 0, none⟩ a).setCell ⟨w.heap.size, 1, none⟩ b).setCell ⟨w.heap.size, 2, none⟩ c)) := fun a b c => ((B0.setCell (Nat.le_refl _) _).setCell (Nat.le_refl _) _).setCell (Nat.le_refl _) _
  have HB0 : Hid (Below w.heap.size w W) := B0
  have HOW : Hid (∀ i, i < s.objs.length → ∀ b, b < s.blk i → W.cell? ⟨D i, b * 2, none⟩ = some (.int .i64 (s.ow i b : Nat))) := fun i hi b hb => (hA0.owes hi hb).1
  obtain ⟨N, hN⟩ : ∃ N, N = w.heap.size := ⟨_, rfl⟩
  clear hA B0 hs hA0 c0 c1 c2 c4 c5 c6 R0
  go_enter Tryz.func53, Tryz.ntmps53
  rw [← hN] at z0 z1 z2 f0 f1 f2 HB HB0 ⊢
  go_wp2_with fail
  simp only [← hN]
  have HN : Hid (N = w.heap.size) := hN
  try simp only [hN, ← hW]
  simp only [← hN]
  clear hN hW
  obtain ⟨L, hL⟩ : ∃ L, L = s.objs.length := ⟨_, rfl⟩
  have HL : Hid (L = s.objs.length) := hL
  rw [← hL] at c3 hlen
  clear hL
  go_wp2
  go_loopw [4] (fun x wr => ∃ k : Nat, k ≤ L ∧ x = .int .i64 k ∧ (∀ i', i' < k → ∀ b', b' < s.blk i' → s.ow i' b' = 0) ∧ wr = W) (fun x _ => L - (intOf x).toNat)
  case atStart => exact ⟨0, Nat.zero_le _, rfl, fun i hi => by omega, rfl⟩
  case round =>
    obtain ⟨k, hk, rfl, hz, rfl⟩ := hrel
    have HZ : Hid (∀ i', i' < k → ∀ b', b' < s.blk i' → s.ow i' b' = 0) := hz
    clear hz
    by_cases hlt : k < L
    · obtain ⟨g, rfl, hg, hsl⟩ := HA.out.slot (by rw [← HL.out]; omega)
      have s1 := (hsl k (by rw [← HL.out]; exact hlt)).2
      have hb8 := HBS.out k (by rw [← HL.out]; exact hlt)
      have HOK : Hid (∀ b, b < s.blk k → wr.cell? ⟨D k, b * 2, none⟩ = some (.int .i64 (s.ow k b : Nat))) := fun b hb => HOW.out k (by rw [← HL.out]; exact hlt) b hb
      clear hsl
      obtain ⟨Bk, hBk⟩ : ∃ Bk, Bk = s.blk k := ⟨_, rfl⟩
      have HBk : Hid (Bk = s.blk k) := hBk
      rw [← hBk] at s1 hb8 HOK
      clear hBk
      go_wp2
      go_loopw [6] (fun x wr' => ∃ m : Nat, m ≤ Bk ∧ x = .int .i64 m ∧ (∀ b', b' < m → s.ow k b' = 0) ∧ wr' = wr) (fun x _ => Bk - (intOf x).toNat)
      case atStart => exact ⟨0, Nat.zero_le _, rfl, fun i hi => by omega, rfl⟩
      case round =>
        obtain ⟨m, hm, rfl, hz, hwr⟩ := hrel
        subst hwr
        have HM : Hid (∀ b', b' < m → s.ow k b' = 0) := hz
        clear hz
        by_cases hlm : m < Bk
        · have cm := HOK.out m hlm
          obtain ⟨v, hv⟩ : ∃ v, v = s.ow k m := ⟨_, rfl⟩
          have HV : Hid (v = s.ow k m) := hv
          rw [← hv] at cm
          clear hv
          by_cases hp : 0 < v
          · have hp' : (0 : Int) < (v : Int) := by omega
            clear hp
            go_wp2
            refine bodyPost_ret (v := .tuple #[.agg #[.int .i64 k, .int .i64 m, .int .i64 0], .bool true]) (by simp [results, Tryz.results53, go_sem, z0, z1, z2]) rfl ?_
            exact ⟨.inl ⟨k, m, by rw [← HL.out]; exact hlt, by rw [← HBk.out]; exact hlm, by rw [← HV.out]; omega, HM.out, HZ.out, rfl⟩, HB.out _ _ _⟩
          · have hv0 : v = 0 := by omega
            subst hv0
            clear hp
            go_wp2
            go_roundw
            case rel =>
              refine ⟨m + 1, by omega, by go_num, fun b' hb' => ?_, by trivial⟩
              by_cases e : b' = m
              · rw [e, ← HV.out]
              · exact HM.out b' (by omega)
            case measure => simp [intOf]; omega
        · have e : m = Bk := by omega
          subst e
          go_wp2
          go_roundw
          case rel =>
            refine ⟨k + 1, by omega, by go_num, fun i' hi' b' hb' => ?_, by trivial⟩
            by_cases e : i' = k
            · subst e; exact HM.out b' (by rw [HBk.out]; exact hb')
            · exact HZ.out i' (by omega) b' hb'
          case measure => simp [intOf]; omega
    · have e : k = L := by omega
      subst e
      clear hlt
      go_wp2
      refine bodyPost_ret (v := .tuple #[.agg #[.int .i64 0, .int .i64 0, .int .i64 0], .bool false]) (by simp [results, Tryz.results53, go_sem, z0, z1, z2]) rfl ?_
      exact ⟨.inr ⟨by rw [← HL.out]; exact HZ.out, rfl⟩, HB.out _ _ _⟩
end Sn
end Go.Proofs.YtkgnmcekeeannaaGreat
