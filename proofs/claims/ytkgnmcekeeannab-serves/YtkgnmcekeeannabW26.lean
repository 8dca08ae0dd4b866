import Derived.Test.YtkgnmcekeeannabW19
import Derived.Test.YtkgnmcekeeannabW08
import Derived.Test.YtkgnmcekeeannabW09
/-
  What the calls keep, with a count of the calls that turn or send.
-/
namespace Go.Proofs.Ytkgnmcekeeannab
namespace Sn
open Ms (It)

structure SOkC (s : St) (c : Nat) : Prop where
  base : SOk s
  deb : ∀ d ∈ s.debts, d.o < s.objs.length ∧ d.b ≤ 255 ∧ 0 < s.n.many (objOf s d.o).size d.b ∧ d.owes ≤ 8 ∧ d.turn ≤ c
  snt : s.sent ≤ c
theorem debtOf_mem (s : St) (i : Nat) (h : i < s.debts.length) : debtOf s i ∈ s.debts := by
  have : debtOf s i = s.debts[i] := by simp [debtOf, List.getD_eq_getElem?_getD, h]
  rw [this]; exact List.getElem_mem h
theorem SOkC.ok2 {s : St} {c : Nat} (h : SOkC s c) (hc : c ≤ 4611686018427387904) : SOk2 s :=
  ⟨h.base, fun i hi => by
    obtain ⟨h1, h2, h3, h4, h5⟩ := h.deb _ (debtOf_mem s i hi)
    exact ⟨h1, h2, h3, h4, by omega⟩, by have := h.snt; omega⟩
theorem SOkC.mono {s : St} {c c' : Nat} (h : SOkC s c) (hc : c ≤ c') : SOkC s c' :=
  ⟨h.base, fun d hd => by
    obtain ⟨h1, h2, h3, h4, h5⟩ := h.deb d hd
    exact ⟨h1, h2, h3, h4, by omega⟩, by have := h.snt; omega⟩
theorem SOkC.new {n : Nm} (hn : n.ok) : SOkC ⟨n, [], [], 0⟩ 0 :=
  ⟨⟨hn, by simp, by simp, by simp⟩, by simp, Nat.le_refl _⟩
theorem blocks_le256 (n : Nm) (hn : n.ok) (len : Nat) (h : len ≤ 256) : n.blocks len ≤ 256 := by
  have ha := all_le n hn len h
  have hb := hn.2.2.1
  unfold Nm.blocks
  by_cases h0 : n.all len = 0
  · rw [h0, Nat.zero_add, Nat.div_eq_of_lt (by omega)]; omega
  · rw [Nat.div_le_iff_le_mul (by omega)]
    have : 256 * n.block ≥ 256 := Nat.le_mul_of_pos_right _ (by omega)
    have e : n.all len * n.block ≥ n.all len := Nat.le_mul_of_pos_right _ (by omega)
    omega
theorem many_pos (n : Nm) (hn : n.ok) (len b : Nat) (h : b < n.blocks len) : 0 < n.many len b := by
  have hb := hn.2.2.1
  unfold Nm.blocks at h
  have h1 := (Nat.le_div_iff_mul_le (by omega : 0 < n.block)).1 (Nat.succ_le_of_lt h)
  rw [Nat.succ_mul] at h1
  unfold Nm.many
  omega
theorem objOf_app (s : St) (o : ByteArray) (ds : List Db) (i : Nat) (h : i < s.objs.length) : objOf ⟨s.n, s.objs ++ [o], ds, s.sent⟩ i = objOf s i := by
  simp [objOf, List.getD_eq_getElem?_getD, List.getElem?_append_left h]
theorem objOf_last (s : St) (o : ByteArray) (ds : List Db) : objOf ⟨s.n, s.objs ++ [o], ds, s.sent⟩ s.objs.length = o := by
  simp [objOf, List.getD_eq_getElem?_getD]
theorem SOkC.enq {s : St} {c : Nat} (h : SOkC s c) (o : ByteArray) : SOkC (enq s o).1 c := by
  unfold Sn.enq
  split
  · exact h
  · split
    · exact h
    · rename_i h1 h2
      have hl := h.base.len
      have hd := h.base.dl
      have hbk := blocks_le256 s.n h.base.nok o.size (by omega)
      refine ⟨⟨h.base.nok, by simp; omega, ?_, ?_⟩, ?_, h.snt⟩
      · intro x hx
        rcases List.mem_append.1 hx with hx | hx
        · exact h.base.sz x hx
        · rw [List.mem_singleton.1 hx]; omega
      · simp; omega
      · intro d hdm
        rcases List.mem_append.1 hdm with hx | hx
        · obtain ⟨a1, a2, a3, a4, a5⟩ := h.deb d hx
          refine ⟨by simp; omega, a2, ?_, a4, a5⟩
          show 0 < s.n.many (objOf ⟨s.n, s.objs ++ [o], _, s.sent⟩ d.o).size d.b
          rw [objOf_app s o _ _ a1]; exact a3
        · obtain ⟨b, hb, rfl⟩ := List.mem_map.1 hx
          rw [List.mem_range] at hb
          refine ⟨by simp, by show b ≤ 255; omega, ?_, by simp, by simp⟩
          show 0 < s.n.many (objOf ⟨s.n, s.objs ++ [o], _, s.sent⟩ s.objs.length).size b
          rw [objOf_last s o]; exact many_pos s.n h.base.nok _ _ hb
theorem SOkC.nxt {s : St} {c : Nat} (h : SOkC s c) : SOkC (nxt s).1 (c + 1) := by
  unfold Sn.nxt
  split
  · rename_i i hi
    have hlt : i < s.debts.length := by
      unfold owing at hi
      rw [List.findIdx?_eq_some_iff_getElem] at hi
      exact hi.1
    refine ⟨⟨h.base.nok, h.base.len, h.base.sz, by simpa using h.base.dl⟩, ?_, by have := h.snt; simp; omega⟩
    intro d hd
    rcases List.mem_or_eq_of_mem_set hd with hx | hx
    · obtain ⟨a1, a2, a3, a4, a5⟩ := h.deb d hx
      exact ⟨a1, a2, a3, a4, by omega⟩
    · obtain ⟨a1, a2, a3, a4, a5⟩ := h.deb _ (debtOf_mem s i hlt)
      subst hx
      exact ⟨a1, a2, a3, by show (debtOf s i).owes - 1 ≤ 8; omega, by show (debtOf s i).turn + 1 ≤ c + 1; omega⟩
  · split
    · exact ⟨⟨h.base.nok, h.base.len, h.base.sz, h.base.dl⟩, fun d hd => by
        obtain ⟨a1, a2, a3, a4, a5⟩ := h.deb d hd
        exact ⟨a1, a2, a3, a4, by omega⟩, by have := h.snt; show s.sent + 1 ≤ c + 1; omega⟩
    · exact h.mono (by omega)
theorem due_keeps (s : St) (hn : s.n.ok) (t : It) (d : Db) (h : d.owes ≤ 8) : (due s t d).o = d.o ∧ (due s t d).b = d.b ∧ (due s t d).turn = d.turn ∧ (due s t d).owes ≤ 8 := by
  have hk := many_le s.n (objOf s d.o).size d.b
  have hb := hn.2.2.2.1
  by_cases h1 : (d.o : Int) ≠ t.o ∨ (0 < t.c ∧ (d.b : Int) ≠ t.b)
  · unfold due; rw [if_pos h1]; exact ⟨rfl, rfl, rfl, h⟩
  · have e : ∃ n : Nat, n ≤ 8 ∧ due s t d = if d.owes < n then { d with owes := n } else d := by
      refine ⟨if 0 < t.c ∧ t.c < ((s.n.many (objOf s d.o).size d.b : Nat) : Int) then t.c.toNat else s.n.many (objOf s d.o).size d.b, ?_, ?_⟩
      · split <;> omega
      · unfold due; rw [if_neg h1]
    obtain ⟨n, hn8, e⟩ := e
    rw [e]
    split
    · exact ⟨rfl, rfl, rfl, hn8⟩
    · exact ⟨rfl, rfl, rfl, h⟩
theorem dues_fold (s : St) (c : Nat) (hn : s.n.ok) (l : List It) : ∀ ds : List Db,
    (∀ d ∈ ds, d.o < s.objs.length ∧ d.b ≤ 255 ∧ 0 < s.n.many (objOf s d.o).size d.b ∧ d.owes ≤ 8 ∧ d.turn ≤ c) →
    (l.foldl (fun ds t => ds.map (due s t)) ds).length = ds.length ∧
    ∀ d ∈ l.foldl (fun ds t => ds.map (due s t)) ds, d.o < s.objs.length ∧ d.b ≤ 255 ∧ 0 < s.n.many (objOf s d.o).size d.b ∧ d.owes ≤ 8 ∧ d.turn ≤ c := by
  induction l with
  | nil => intro ds h; exact ⟨rfl, h⟩
  | cons t l ih =>
    intro ds h
    have := ih (ds.map (due s t)) (by
      intro d hd
      obtain ⟨x, hx, rfl⟩ := List.mem_map.1 hd
      obtain ⟨a1, a2, a3, a4, a5⟩ := h x hx
      obtain ⟨k1, k2, k3, k4⟩ := due_keeps s hn t x a4
      rw [k1, k2, k3]
      exact ⟨a1, a2, a3, k4, a5⟩)
    rw [List.length_map] at this
    exact this
theorem SOkC.dues {s : St} {c : Nat} (h : SOkC s c) (l : List It) : SOkC ⟨s.n, s.objs, dues s l, s.sent⟩ c := by
  have hf := dues_fold s c h.base.nok l s.debts h.deb
  exact ⟨⟨h.base.nok, h.base.len, h.base.sz, by show (Sn.dues s l).length ≤ _; unfold Sn.dues; rw [hf.1]; exact h.base.dl⟩, hf.2, h.snt⟩
end Sn
end Go.Proofs.Ytkgnmcekeeannab
/-
  The landed sender's firstOwed.
-/
namespace Go.Proofs.Ytkgnmcekeeannab
open Go.RowKit Go.Deep
namespace Sn
open Bs
set_option linter.unusedVariables false

/-- what firstOwed answers -/
def FirstOut (s : LS) (e : Ending) : Prop :=
  (∃ i b, i < s.objs.length ∧ b < s.blk i ∧ 0 < s.ow i b ∧ (∀ b', b' < b → s.ow i b' = 0) ∧ (∀ i', i' < i → ∀ b', b' < s.blk i' → s.ow i' b' = 0) ∧ e = .returned (.tuple #[.agg #[.int .i64 i, .int .i64 b, .int .i64 0], .bool true])) ∨
  ((∀ i', i' < s.objs.length → ∀ b', b' < s.blk i' → s.ow i' b' = 0) ∧ e = .returned (.tuple #[.agg #[.int .i64 0, .int .i64 0, .int .i64 0], .bool false]))
theorem LI.owes {w : World} {P : Nat} {s : LS} {F : Nat → Prop} {ao : Option Addr} {co : Nat} {D : Nat → Nat} (h : LI w P s F ao co D) {i b : Nat} (hi : i < s.objs.length) (hb : b < s.blk i) :
    w.cell? ⟨D i, b * 2, none⟩ = some (.int .i64 (s.ow i b : Nat)) ∧ w.cell? ⟨D i, b * 2 + 1, none⟩ = some (.int .i64 (s.tu i b : Nat)) := by
  have h0 := (h.db i hi).cell (i := b * 2) (by omega)
  have h1 := (h.db i hi).cell (i := b * 2 + 1) (by omega)
  unfold dRow at h0 h1
  rw [if_pos (by omega), show b * 2 / 2 = b from by omega] at h0
  rw [if_neg (by omega), show (b * 2 + 1) / 2 = b from by omega] at h1
  exact ⟨h0, h1⟩
theorem blk_le (s : LS) (hs : LOk s) (i : Nat) (hi : i < s.objs.length) : s.blk i ≤ 256 := blocks_le s.n hs.nok _ (hs.sz i hi).2

set_option maxRecDepth 100000 in
set_option maxHeartbeats 4000000 in
theorem lanFirst (s : LS) (P : Nat) (F : Nat → Prop) (ao : Option Addr) (co : Nat) (D : Nat → Nat) (w : World) (hs : LOk s) (hA : LI w P s F ao co D) :
    Calls Try.prog 54 #[.pointer (some ⟨P, 0, none⟩)] w fun e w' => FirstOut s e ∧ Below w.heap.size w w' := by
  have B0 : Below w.heap.size w (w.alloc (.cells #[.int .i64 0, .int .i64 0, .int .i64 0] 85)) := (Below.refl _ _).alloc (Nat.le_refl _) _
  have R0 := World.rowIs_alloc w #[.int .i64 0, .int .i64 0, .int .i64 0] 85 (fun _ => .int .i64 0) (fun i hi => by
    match i, hi with
    | 0, _ => rfl
    | 1, _ => rfl
    | 2, _ => rfl)
  obtain ⟨W, hW⟩ : ∃ W, W = w.alloc (.cells #[.int .i64 0, .int .i64 0, .int .i64 0] 85) := ⟨_, rfl⟩
  have hA0 : LI W P s F ao co D := by rw [hW]; exact hA.below B0
  rw [← hW] at B0 R0
  have hlen := hs.len
  have HBS : Hid (∀ i, i < s.objs.length → s.blk i ≤ 256) := fun i hi => blk_le s hs i hi
  obtain ⟨c0, c1, c2, c3, c4, c5, c6⟩ := hA0.cells
  have z0 : W.cell? ⟨w.heap.size, 0, none⟩ = some (.int .i64 0) := R0.cell (by decide)
  have z1 : W.cell? ⟨w.heap.size, 1, none⟩ = some (.int .i64 0) := R0.cell (by decide)
  have z2 : W.cell? ⟨w.heap.size, 2, none⟩ = some (.int .i64 0) := R0.cell (by decide)
  have f0 := R0.frozen 0
  have f1 := R0.frozen 1
  have f2 := R0.frozen 2
  have HA : Hid (LI W P s F ao co D) := hA0
  have HB : Hid (∀ a b c, Below w.heap.size w (((W.setCell ⟨w.heap.size, 0, none⟩ a).setCell ⟨w.heap.size, 1, none⟩ b).setCell ⟨w.heap.size, 2, none⟩ c)) := fun a b c => ((B0.setCell (Nat.le_refl _) _).setCell (Nat.le_refl _) _).setCell (Nat.le_refl _) _
  have HB0 : Hid (Below w.heap.size w W) := B0
  have HOW : Hid (∀ i, i < s.objs.length → ∀ b, b < s.blk i → W.cell? ⟨D i, b * 2, none⟩ = some (.int .i64 (s.ow i b : Nat))) := fun i hi b hb => (hA0.owes hi hb).1
  obtain ⟨N, hN⟩ : ∃ N, N = w.heap.size := ⟨_, rfl⟩
  clear hA B0 hs hA0 c0 c1 c2 c4 c5 c6 R0
  go_enter Try.func54, Try.ntmps54
  rw [← hN] at z0 z1 z2 f0 f1 f2 HB HB0 ⊢
  go_wp2_with fail
  simp only [← hN]
  have HN : Hid (N = w.heap.size) := hN
  try simp only [hN, ← hW]
  simp only [← hN]
  clear hN hW
  obtain ⟨L, hL⟩ : ∃ L, L = s.objs.length := ⟨_, rfl⟩
  have HL : Hid (L = s.objs.length) := hL
  rw [← hL] at c3 hlen
  clear hL
  go_wp2
  go_loopw [4] (fun x wr => ∃ k : Nat, k ≤ L ∧ x = .int .i64 k ∧ (∀ i', i' < k → ∀ b', b' < s.blk i' → s.ow i' b' = 0) ∧ wr = W) (fun x _ => L - (intOf x).toNat)
  case atStart => exact ⟨0, Nat.zero_le _, rfl, fun i hi => by omega, rfl⟩
  case round =>
    obtain ⟨k, hk, rfl, hz, rfl⟩ := hrel
    have HZ : Hid (∀ i', i' < k → ∀ b', b' < s.blk i' → s.ow i' b' = 0) := hz
    clear hz
    by_cases hlt : k < L
    · obtain ⟨g, rfl, hg, hsl⟩ := HA.out.slot (by rw [← HL.out]; omega)
      have s1 := (hsl k (by rw [← HL.out]; exact hlt)).2
      have hb8 := HBS.out k (by rw [← HL.out]; exact hlt)
      have HOK : Hid (∀ b, b < s.blk k → wr.cell? ⟨D k, b * 2, none⟩ = some (.int .i64 (s.ow k b : Nat))) := fun b hb => HOW.out k (by rw [← HL.out]; exact hlt) b hb
      clear hsl
      obtain ⟨Bk, hBk⟩ : ∃ Bk, Bk = s.blk k := ⟨_, rfl⟩
      have HBk : Hid (Bk = s.blk k) := hBk
      rw [← hBk] at s1 hb8 HOK
      clear hBk
      go_wp2
      go_loopw [6] (fun x wr' => ∃ m : Nat, m ≤ Bk ∧ x = .int .i64 m ∧ (∀ b', b' < m → s.ow k b' = 0) ∧ wr' = wr) (fun x _ => Bk - (intOf x).toNat)
      case atStart => exact ⟨0, Nat.zero_le _, rfl, fun i hi => by omega, rfl⟩
      case round =>
        obtain ⟨m, hm, rfl, hz, hwr⟩ := hrel
        subst hwr
        have HM : Hid (∀ b', b' < m → s.ow k b' = 0) := hz
        clear hz
        by_cases hlm : m < Bk
        · have cm := HOK.out m hlm
          obtain ⟨v, hv⟩ : ∃ v, v = s.ow k m := ⟨_, rfl⟩
          have HV : Hid (v = s.ow k m) := hv
          rw [← hv] at cm
          clear hv
          by_cases hp : 0 < v
          · have hp' : (0 : Int) < (v : Int) := by omega
            clear hp
            go_wp2
            refine bodyPost_ret (v := .tuple #[.agg #[.int .i64 k, .int .i64 m, .int .i64 0], .bool true]) (by simp [results, Try.results54, go_sem, z0, z1, z2]) rfl ?_
            exact ⟨.inl ⟨k, m, by rw [← HL.out]; exact hlt, by rw [← HBk.out]; exact hlm, by rw [← HV.out]; omega, HM.out, HZ.out, rfl⟩, HB.out _ _ _⟩
          · have hv0 : v = 0 := by omega
            subst hv0
            clear hp
            go_wp2
            go_roundw
            case rel =>
              refine ⟨m + 1, by omega, by go_num, fun b' hb' => ?_, by trivial⟩
              by_cases e : b' = m
              · rw [e, ← HV.out]
              · exact HM.out b' (by omega)
            case measure => simp [intOf]; omega
        · have e : m = Bk := by omega
          subst e
          go_wp2
          go_roundw
          case rel =>
            refine ⟨k + 1, by omega, by go_num, fun i' hi' b' hb' => ?_, by trivial⟩
            by_cases e : i' = k
            · subst e; exact HM.out b' (by rw [HBk.out]; exact hb')
            · exact HZ.out i' (by omega) b' hb'
          case measure => simp [intOf]; omega
    · have e : k = L := by omega
      subst e
      clear hlt
      go_wp2
      refine bodyPost_ret (v := .tuple #[.agg #[.int .i64 0, .int .i64 0, .int .i64 0], .bool false]) (by simp [results, Try.results54, go_sem, z0, z1, z2]) rfl ?_
      exact ⟨.inr ⟨by rw [← HL.out]; exact HZ.out, rfl⟩, HB.out _ _ _⟩
end Sn
end Go.Proofs.Ytkgnmcekeeannab
/-
  The landed sender's pay, owe and goOn.
-/
namespace Go.Proofs.Ytkgnmcekeeannab
open Go.RowKit Go.Deep
namespace Sn
open Bs
open Ms (owns_setCell)
set_option linter.unusedVariables false

def upd (f : Nat → Nat → Nat) (i b v : Nat) : Nat → Nat → Nat := fun i' b' => if i' = i ∧ b' = b then v else f i' b'
theorem upd_same (f : Nat → Nat → Nat) (i b : Nat) : upd f i b (f i b) = f := by
  funext i' b'
  unfold upd
  by_cases h : i' = i ∧ b' = b
  · rw [if_pos h, h.1, h.2]
  · rw [if_neg h]
theorem upd_upd (f : Nat → Nat → Nat) (i b v v' : Nat) : upd (upd f i b v) i b v' = upd f i b v' := by
  funext i' b'
  unfold upd
  by_cases h : i' = i ∧ b' = b
  · rw [if_pos h, if_pos h]
  · rw [if_neg h, if_neg h, if_neg h]
theorem Touch.set {w wr : World} {F : Nat → Prop} {b j : Nat} {v : Value} (h : Touch w wr F) (hb : F b) : Touch w (wr.setCell ⟨b, j, none⟩ v) F :=
  ⟨h.os, h.tape, h.output, by simp; exact h.size, fun x h1 h2 => by rw [heap_setCell_other _ _ _ _ (fun e => h2 (by rw [e]; exact hb)), h.block x h1 h2]⟩
theorem Touch.drew {w wr : World} {F : Nat → Prop} (h : Touch w wr F) : Touch w wr.drew F := ⟨h.os, h.tape, h.output, h.size, h.block⟩
theorem LI.setOw {w : World} {P : Nat} {s : LS} {F : Nat → Prop} {ao : Option Addr} {co : Nat} {D : Nat → Nat} (h : LI w P s F ao co D) {i b : Nat} (hi : i < s.objs.length) (hb : b < s.blk i) (v : Nat) :
    LI (w.setCell ⟨D i, b * 2, none⟩ (.int .i64 v)) P { s with ow := upd s.ow i b v } F ao co D := by
  refine ⟨h.row.setOther (a := ⟨D i, b * 2, none⟩) (fun e => h.dp i hi e.symm) _, owns_setCell h.ob (h.od i hi), fun j hj => ?_, h.fP, h.fo, h.fd, h.op, h.dp, h.od, h.dd⟩
  by_cases e : j = i
  · subst e
    refine ((h.db j hj).set (b * 2) _).congr (fun q hq => ?_)
    unfold dRow upd
    by_cases e : q = b * 2
    · subst e; simp [show b * 2 / 2 = b from by omega]
    · rw [if_neg e]
      by_cases e2 : q % 2 = 0
      · have : q / 2 ≠ b := by omega
        simp [e2, this]
      · simp [e2]
  · refine ((h.db j hj).setOther (a := ⟨D i, b * 2, none⟩) (fun e' => e (h.dd j i hj hi e')) _).congr (fun q hq => ?_)
    simp [dRow, upd, e]
theorem LI.setTu {w : World} {P : Nat} {s : LS} {F : Nat → Prop} {ao : Option Addr} {co : Nat} {D : Nat → Nat} (h : LI w P s F ao co D) {i b : Nat} (hi : i < s.objs.length) (hb : b < s.blk i) (v : Nat) :
    LI (w.setCell ⟨D i, b * 2 + 1, none⟩ (.int .i64 v)) P { s with tu := upd s.tu i b v } F ao co D := by
  refine ⟨h.row.setOther (a := ⟨D i, b * 2 + 1, none⟩) (fun e => h.dp i hi e.symm) _, owns_setCell h.ob (h.od i hi), fun j hj => ?_, h.fP, h.fo, h.fd, h.op, h.dp, h.od, h.dd⟩
  by_cases e : j = i
  · subst e
    refine ((h.db j hj).set (b * 2 + 1) _).congr (fun q hq => ?_)
    unfold dRow upd
    by_cases e : q = b * 2 + 1
    · subst e; simp [show (b * 2 + 1) / 2 = b from by omega]
    · rw [if_neg e]
      by_cases e2 : q % 2 = 0
      · simp [e2]
      · have : q / 2 ≠ b := by omega
        simp [e2, this]
  · refine ((h.db j hj).setOther (a := ⟨D i, b * 2 + 1, none⟩) (fun e' => e (h.dd j i hj hi e')) _).congr (fun q hq => ?_)
    simp [dRow, upd, e]
theorem LI.setNo {w : World} {P : Nat} {s : LS} {F : Nat → Prop} {ao : Option Addr} {co : Nat} {D : Nat → Nat} (h : LI w P s F ao co D) (v : Nat) : LI (w.setCell ⟨P, 4, none⟩ (.int .i64 v)) P { s with no := v } F ao co D := by
  refine ⟨(h.row.set 4 _).congr (fun j hj => ?_), owns_setCell h.ob h.op, fun i hi => ((h.db i hi).setOther (a := ⟨P, 4, none⟩) (h.dp i hi) _).congr (fun q hq => rfl), h.fP, h.fo, h.fd, h.op, h.dp, h.od, h.dd⟩
  match j, hj with
  | 0, _ => rfl
  | 1, _ => rfl
  | 2, _ => rfl
  | 3, _ => rfl
  | 4, _ => rfl
  | 5, _ => rfl
  | 6, _ => rfl
theorem LI.setNb {w : World} {P : Nat} {s : LS} {F : Nat → Prop} {ao : Option Addr} {co : Nat} {D : Nat → Nat} (h : LI w P s F ao co D) (v : Nat) : LI (w.setCell ⟨P, 5, none⟩ (.int .i64 v)) P { s with nb := v } F ao co D := by
  refine ⟨(h.row.set 5 _).congr (fun j hj => ?_), owns_setCell h.ob h.op, fun i hi => ((h.db i hi).setOther (a := ⟨P, 5, none⟩) (h.dp i hi) _).congr (fun q hq => rfl), h.fP, h.fo, h.fd, h.op, h.dp, h.od, h.dd⟩
  match j, hj with
  | 0, _ => rfl
  | 1, _ => rfl
  | 2, _ => rfl
  | 3, _ => rfl
  | 4, _ => rfl
  | 5, _ => rfl
  | 6, _ => rfl
theorem LI.setNn {w : World} {P : Nat} {s : LS} {F : Nat → Prop} {ao : Option Addr} {co : Nat} {D : Nat → Nat} (h : LI w P s F ao co D) (v : Nat) : LI (w.setCell ⟨P, 6, none⟩ (.int .i64 v)) P { s with nn := v } F ao co D := by
  refine ⟨(h.row.set 6 _).congr (fun j hj => ?_), owns_setCell h.ob h.op, fun i hi => ((h.db i hi).setOther (a := ⟨P, 6, none⟩) (h.dp i hi) _).congr (fun q hq => rfl), h.fP, h.fo, h.fd, h.op, h.dp, h.od, h.dd⟩
  match j, hj with
  | 0, _ => rfl
  | 1, _ => rfl
  | 2, _ => rfl
  | 3, _ => rfl
  | 4, _ => rfl
  | 5, _ => rfl
  | 6, _ => rfl

/-- what pay leaves -/
def LS.paid (s : LS) (i b : Nat) : LS := { s with ow := upd s.ow i b (s.ow i b - 1), tu := upd s.tu i b (if s.tu i b + 1 < s.n.many (s.obj i).size b + s.n.spare then s.tu i b + 1 else 0) }
def LS.payNum (s : LS) (i b : Nat) : Nat := if s.tu i b < s.n.spare then s.n.many (s.obj i).size b + s.tu i b else s.tu i b - s.n.spare
set_option maxRecDepth 100000 in
set_option maxHeartbeats 4000000 in
theorem lanPay (s : LS) (i b P : Nat) (F : Nat → Prop) (ao : Option Addr) (co : Nat) (D : Nat → Nat) (w : World) (hs : LOk s) (hi : i < s.objs.length) (hb : b < s.blk i) (ho : 0 < s.ow i b) (ho2 : s.ow i b ≤ 8) (ht : s.tu i b < s.n.many (s.obj i).size b + s.n.spare) (hA : LI w P s F ao co D) :
    Calls Try.prog 55 #[.pointer (some ⟨P, 0, none⟩), .int .i64 i, .int .i64 b] w fun e w' => e = .returned (.int .i64 (s.payNum i b : Nat)) ∧ LI w' P (s.paid i b) F ao co D ∧ Touch w w' F := by
  obtain ⟨g, rfl, hg, hsl⟩ := hA.slot (by omega)
  obtain ⟨c0, c1, c2, c3, c4, c5, c6⟩ := hA.cells
  have s1 := (hsl i hi).2
  have hlen := hs.len
  have hbl := blk_le s hs i hi
  have HSY := lanSymbols s i b P F (some ⟨g, 0, none⟩) co D w hs hi (by omega) hA
  have hM := many_le s.n (s.obj i).size b
  obtain ⟨_, _, _, hbk, hsp8⟩ := hs.nok
  have HA : Hid (LI w P s F (some ⟨g, 0, none⟩) co D) := hA
  have HPN : Hid (s.payNum i b = if s.tu i b < s.n.spare then s.n.many (s.obj i).size b + s.tu i b else s.tu i b - s.n.spare) := rfl
  have HPD : Hid (s.paid i b = { s with ow := upd s.ow i b (s.ow i b - 1), tu := upd s.tu i b (if s.tu i b + 1 < s.n.many (s.obj i).size b + s.n.spare then s.tu i b + 1 else 0) }) := rfl
  generalize s.payNum i b = PN at *
  generalize s.n.many (s.obj i).size b = k at *
  have HI : Hid (i < s.objs.length) := hi
  have HB : Hid (b < s.blk i) := hb
  obtain ⟨sp, hsp⟩ : ∃ sp, sp = s.n.spare := ⟨_, rfl⟩
  have HSP : Hid (sp = s.n.spare) := hsp
  obtain ⟨L, hL⟩ : ∃ L, L = s.objs.length := ⟨_, rfl⟩
  obtain ⟨Bk, hBk⟩ : ∃ Bk, Bk = s.blk i := ⟨_, rfl⟩
  obtain ⟨O, hO⟩ : ∃ O, O = s.ow i b := ⟨_, rfl⟩
  have HO : Hid (O = s.ow i b) := hO
  obtain ⟨Tn, hTn⟩ : ∃ O, O = s.tu i b := ⟨_, rfl⟩
  have HT : Hid (Tn = s.tu i b) := hTn
  rw [← hsp, ← hTn] at ht
  rw [← hsp] at hsp8
  rw [← hL] at hi hlen c3
  rw [← hBk] at hb hbl s1
  rw [← hO] at ho ho2
  rw [← hTn, ← hsp] at HPN
  have hk8 : k ≤ 8 := by omega
  clear hsp hL hBk hO hTn hA hsl c0 c1 c4 c5 c6 hM hbk c2
  go_enter Try.func55, Try.ntmps55
  go_wp2_with fail
  refine HSY.mono ?_
  rintro e w1 ⟨rfl, hb1⟩
  have LI1 := HA.out.below hb1
  have T1 : Touch w w1 F := (Touch.refl _ _).below hb1
  obtain ⟨q0, q1⟩ := LI1.owes HI.out HB.out
  have c2 := LI1.cells.2.2.1
  rw [← HSP.out] at c2
  rw [← HO.out] at q0
  rw [← HT.out] at q1
  have f0 := (LI1.db i HI.out).frozen (b * 2)
  have f1 := (LI1.db i HI.out).frozen (b * 2 + 1)
  have L2 := (LI1.setOw HI.out HB.out (O - 1)).setTu (i := i) (b := b) HI.out HB.out
  have T2 : ∀ v v', Touch w ((w1.setCell ⟨D i, b * 2, none⟩ v).setCell ⟨D i, b * 2 + 1, none⟩ v') F := fun v v' => (T1.set (LI1.fd i HI.out)).set (LI1.fd i HI.out)
  have HL2 : Hid (∀ v : Nat, LI ((w1.setCell ⟨D i, b * 2, none⟩ (.int .i64 (O - 1 : Nat))).setCell ⟨D i, b * 2 + 1, none⟩ (.int .i64 v)) P { s with ow := upd s.ow i b (O - 1), tu := upd s.tu i b v } F (some ⟨g, 0, none⟩) co D) := L2
  have HT2 : Hid (∀ v v', Touch w ((w1.setCell ⟨D i, b * 2, none⟩ v).setCell ⟨D i, b * 2 + 1, none⟩ v') F) := T2
  clear LI1 T1 L2 T2 hb1 HSY HA c3 s1
  have eO : (O : Int) - 1 = ((O - 1 : Nat) : Int) := by omega
  have tO : wrap64 ((O : Int) - 1) = ((O - 1 : Nat) : Int) := by rw [eO]; unfold wrap64; omega
  have HE2 : Hid (s.paid i b = { s with ow := upd s.ow i b (O - 1), tu := upd s.tu i b (if Tn + 1 < k + sp then Tn + 1 else 0) }) := by unfold Hid; rw [HPD.out, ← HO.out, ← HT.out, ← HSP.out]
  clear HPD
  have HL3 : Hid (∀ v : Nat, LI (((w1.setCell ⟨D i, b * 2, none⟩ (.int .i64 (O - 1 : Nat))).setCell ⟨D i, b * 2 + 1, none⟩ (.int .i64 v)).setCell ⟨D i, b * 2 + 1, none⟩ (.int .i64 (0 : Nat))) P { s with ow := upd s.ow i b (O - 1), tu := upd s.tu i b 0 } F (some ⟨g, 0, none⟩) co D) := fun v => by
    have h := (HL2.out v).setTu (i := i) (b := b) HI.out HB.out 0
    rw [show upd (upd s.tu i b v) i b 0 = upd s.tu i b 0 from upd_upd _ _ _ _ _] at h
    exact h
  have HT3 : Hid (∀ v v' v'', Touch w (((w1.setCell ⟨D i, b * 2, none⟩ v).setCell ⟨D i, b * 2 + 1, none⟩ v').setCell ⟨D i, b * 2 + 1, none⟩ v'') F) := fun v v' v'' => (HT2.out v v').set ((HL2.out 0).fd i HI.out)
  by_cases hn : Tn < sp
  · have e1 : PN = k + Tn := by rw [HPN.out, if_pos hn]
    subst e1
    by_cases hw : Tn + 1 < k + sp
    · go_wp2
      go_ret
      rw [HE2.out, if_pos hw]
      exact ⟨rfl, HL2.out (Tn + 1), HT2.out _ _⟩
    · go_wp2
      go_ret
      rw [HE2.out, if_neg hw]
      exact ⟨rfl, HL3.out (Tn + 1), HT3.out _ _ _⟩
  · have e1 : (PN : Int) = (Tn : Int) - (sp : Int) := by rw [HPN.out, if_neg hn]; omega
    have HE1 : Hid ((PN : Int) = (Tn : Int) - (sp : Int)) := e1
    clear e1
    have hn2 : (k : Int) + (sp : Int) ≤ (k : Int) + (Tn : Int) := by omega
    clear hn
    by_cases hw : Tn + 1 < k + sp
    · go_wp2
      go_ret
      rw [HE2.out, if_pos hw]
      exact ⟨Fld.ret_int (by rw [HE1.out]; omega), HL2.out (Tn + 1), HT2.out _ _⟩
    · go_wp2
      go_ret
      rw [HE2.out, if_neg hw]
      exact ⟨Fld.ret_int (by rw [HE1.out]; omega), HL3.out (Tn + 1), HT3.out _ _ _⟩
/-- what owe leaves -/
def LS.owed (s : LS) (i b c : Nat) : LS := { s with ow := upd s.ow i b (max (s.ow i b) (min c (s.n.many (s.obj i).size b))) }
set_option maxRecDepth 100000 in
set_option maxHeartbeats 4000000 in
theorem lanOwe (s : LS) (i b c P : Nat) (F : Nat → Prop) (ao : Option Addr) (co : Nat) (D : Nat → Nat) (w : World) (hs : LOk s) (hi : i < s.objs.length) (hb : b < s.blk i) (ho2 : s.ow i b ≤ 8) (hc : c ≤ 65536) (hA : LI w P s F ao co D) :
    Calls Try.prog 70 #[.pointer (some ⟨P, 0, none⟩), .int .i64 i, .int .i64 b, .int .i64 c] w fun e w' => e = .returned (.tuple #[]) ∧ LI w' P (s.owed i b c) F ao co D ∧ Touch w w' F := by
  obtain ⟨g, rfl, hg, hsl⟩ := hA.slot (by omega)
  obtain ⟨c0, c1, c2, c3, c4, c5, c6⟩ := hA.cells
  have s1 := (hsl i hi).2
  have hlen := hs.len
  have hbl := blk_le s hs i hi
  have HSY := lanSymbols s i b P F (some ⟨g, 0, none⟩) co D w hs hi (by omega) hA
  have hM := many_le s.n (s.obj i).size b
  obtain ⟨_, _, _, hbk, hsp8⟩ := hs.nok
  have HA : Hid (LI w P s F (some ⟨g, 0, none⟩) co D) := hA
  have HPD : Hid (s.owed i b c = { s with ow := upd s.ow i b (max (s.ow i b) (min c (s.n.many (s.obj i).size b))) }) := rfl
  generalize s.n.many (s.obj i).size b = k at *
  have HI : Hid (i < s.objs.length) := hi
  have HB : Hid (b < s.blk i) := hb
  obtain ⟨L, hL⟩ : ∃ L, L = s.objs.length := ⟨_, rfl⟩
  obtain ⟨Bk, hBk⟩ : ∃ Bk, Bk = s.blk i := ⟨_, rfl⟩
  obtain ⟨O, hO⟩ : ∃ O, O = s.ow i b := ⟨_, rfl⟩
  have HO : Hid (O = s.ow i b) := hO
  rw [← hL] at hi hlen c3
  rw [← hBk] at hb hbl s1
  rw [← hO] at ho2
  have hk8 : k ≤ 8 := by omega
  clear hL hBk hO hA hsl c0 c1 c2 c4 c5 c6 hM hbk
  go_enter Try.func70, Try.ntmps70
  go_wp2_with fail
  refine HSY.mono ?_
  rintro e w1 ⟨rfl, hb1⟩
  have LI1 := HA.out.below hb1
  have T1 : Touch w w1 F := (Touch.refl _ _).below hb1
  obtain ⟨q0, q1⟩ := LI1.owes HI.out HB.out
  rw [← HO.out] at q0
  have f0 := (LI1.db i HI.out).frozen (b * 2)
  have HL1 : Hid (LI w1 P s F (some ⟨g, 0, none⟩) co D) := LI1
  have HL2 : Hid (∀ v : Nat, LI (w1.setCell ⟨D i, b * 2, none⟩ (.int .i64 v)) P { s with ow := upd s.ow i b v } F (some ⟨g, 0, none⟩) co D) := fun v => LI1.setOw HI.out HB.out v
  have HT1 : Hid (Touch w w1 F) := T1
  have HT2 : Hid (∀ v, Touch w (w1.setCell ⟨D i, b * 2, none⟩ v) F) := fun v => T1.set (LI1.fd i HI.out)
  clear LI1 T1 hb1 HSY HA c3 s1 q1
  have HE2 : Hid (s.owed i b c = { s with ow := upd s.ow i b (max O (min c k)) }) := by unfold Hid; rw [HPD.out, ← HO.out]
  clear HPD
  by_cases hn : k < c
  · by_cases hw : O < k
    · go_wp2
      refine bodyPost_end (v := .tuple #[]) (by simp [results, Try.results70]) rfl ?_
      rw [HE2.out, show max O (min c k) = k from by omega]
      exact ⟨rfl, HL2.out k, HT2.out _⟩
    · go_wp2
      refine bodyPost_end (v := .tuple #[]) (by simp [results, Try.results70]) rfl ?_
      rw [HE2.out, show max O (min c k) = O from by omega, HO.out, upd_same]
      exact ⟨rfl, HL1.out, HT1.out⟩
  · by_cases hw : O < c
    · go_wp2
      refine bodyPost_end (v := .tuple #[]) (by simp [results, Try.results70]) rfl ?_
      rw [HE2.out, show max O (min c k) = c from by omega]
      exact ⟨rfl, HL2.out c, HT2.out _⟩
    · go_wp2
      refine bodyPost_end (v := .tuple #[]) (by simp [results, Try.results70]) rfl ?_
      rw [HE2.out, show max O (min c k) = O from by omega, HO.out, upd_same]
      exact ⟨rfl, HL1.out, HT1.out⟩
end Sn
end Go.Proofs.Ytkgnmcekeeannab
