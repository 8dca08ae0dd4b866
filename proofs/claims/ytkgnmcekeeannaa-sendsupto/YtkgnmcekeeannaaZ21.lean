import Derived.Test.YtkgnmcekeeannaaZ20
namespace Go.Proofs.Ytkgnmcekeeannaa
open Go.RowKit Go.Deep
namespace Sn
open Bs
open Ms (txt text ok M mV mVm WriteOut refWrite owns_setCell)
set_option linter.unusedVariables false

theorem owns_set {w : World} {base e size n cap g j : Nat} {v : Value} {xs : List Value} (h : w.ownsRow base e size (.slice (some ⟨g, 0, none⟩) n cap) n xs) (hj : j < n * size) : (w.setCell ⟨g, j, none⟩ v).ownsRow base e size (.slice (some ⟨g, 0, none⟩) n cap) n (xs.set j v) := by
  refine ⟨by rw [List.length_set]; exact h.1, ?_⟩
  rcases h.2 with ⟨h0, _⟩ | ⟨g', cap', cur, e', hb, hg, h1, h2, h3, h4⟩
  · cases h0
  · simp only [Value.slice.injEq, Option.some.injEq, Addr.mk.injEq, and_true, true_and] at e'
    obtain ⟨rfl, rfl⟩ := e'
    refine .inr ⟨g, cap, cur.setIfInBounds j v, rfl, hb, heap_setCell_same w g j cur e v hg, h1, h2, by simp [h3], ?_⟩
    rw [Array.toList_setIfInBounds, List.take_set, h4]
theorem dvs_get (l : List Db) (d0 : Db) : ∀ (i : Nat), i < l.length → ∀ r, r < 4 → (dvs l)[i * 4 + r]? = (dv (l.getD i d0))[r]? := by
  induction l with
  | nil => intro i hi; simp at hi
  | cons d l ih =>
    intro i hi r hr
    simp only [dvs]
    cases i with
    | zero => rw [List.getElem?_append_left (by simp [dv]; omega)]; simp
    | succ i =>
      rw [List.getElem?_append_right (by simp [dv]; omega)]
      have e : (i + 1) * 4 + r - (dv d).length = i * 4 + r := by simp [dv]; omega
      rw [e, ih i (by simpa using hi) r hr]; simp
theorem dvs_set_owes (l : List Db) (d0 : Db) (v : Nat) : ∀ i, i < l.length → (dvs l).set (i * 4 + 2) (.int .i64 v) = dvs (l.set i { l.getD i d0 with owes := v }) := by
  induction l with
  | nil => intro i hi; simp at hi
  | cons d l ih =>
    intro i hi
    cases i with
    | zero => simp [dvs, dv]
    | succ i =>
      simp only [dvs, List.set_cons_succ]
      rw [List.set_append, if_neg (by simp [dv]; omega)]
      have e : (i + 1) * 4 + 2 - (dv d).length = i * 4 + 2 := by simp [dv]; omega
      rw [e, ih i (by simpa using hi)]; simp
theorem dvs_set_turn (l : List Db) (d0 : Db) (v : Nat) : ∀ i, i < l.length → (dvs l).set (i * 4 + 3) (.int .i64 v) = dvs (l.set i { l.getD i d0 with turn := v }) := by
  induction l with
  | nil => intro i hi; simp at hi
  | cons d l ih =>
    intro i hi
    cases i with
    | zero => simp [dvs, dv]
    | succ i =>
      simp only [dvs, List.set_cons_succ]
      rw [List.set_append, if_neg (by simp [dv]; omega)]
      have e : (i + 1) * 4 + 3 - (dv d).length = i * 4 + 3 := by simp [dv]; omega
      rw [e, ih i (by simpa using hi)]; simp
/-- where the debts lie -/
theorem SI.debt_at {w wr : World} {P : Nat} {n : Nm} {objs : List ByteArray} {ds : List Db} {sent : Nat} {F : Nat → Prop} {ao : Option Addr} {co : Nat} {ad : Option Addr} {cd : Nat} (h : SI w wr P n objs ds sent F ao co ad cd) (h0 : 0 < ds.length) :
    ∃ dg, ad = some ⟨dg, 0, none⟩ ∧ dg < wr.heap.size ∧ dg ≠ P ∧ (∀ i, i < ds.length → ∀ r v, r < 4 → (dv (ds.getD i ⟨0, 0, 0, 0⟩))[r]? = some v → wr.cell? ⟨dg, i * 4 + r, none⟩ = some v) ∧ (∀ j, wr.frozen? ⟨dg, j, none⟩ = false) := by
  rcases h.db.2 with ⟨_, e⟩ | ⟨g, cap, cur, e, hb, hg, _⟩
  · omega
  · simp only [Value.slice.injEq] at e
    obtain ⟨rfl, _, rfl⟩ := e
    have hc := h.db.cells (g := g) rfl
    refine ⟨g, rfl, (h.db.lt g rfl).2, fun e => h.dp (by rw [e]; rfl), fun i hi r v hr hv => ?_, fun j => by simp [World.frozen?, hg]⟩
    have := hc (i * 4 + r) v (by rw [dvs_get ds ⟨0, 0, 0, 0⟩ i hi r hr]; exact hv)
    rw [add_eq0] at this
    exact this
theorem touch_set {w wr : World} {F : Nat → Prop} {b j : Nat} {x : Value} (h : Touch w wr F) (hb : F b ∨ w.heap.size ≤ b) : Touch w (wr.setCell ⟨b, j, none⟩ x) F :=
  ⟨h.os, h.tape, h.output, by simp; exact h.size, fun c hc hF => by
    rw [heap_setCell_other _ _ _ _ (fun e => ?_), h.block c hc hF]
    rcases hb with hb | hb
    · exact hF (e ▸ hb)
    · have : c = b := e
      omega⟩
theorem SI.set_debt {w wr : World} {P : Nat} {n : Nm} {objs : List ByteArray} {ds : List Db} {sent : Nat} {F : Nat → Prop} {ao : Option Addr} {co dg cd : Nat} {j : Nat} {v : Value} {ds' : List Db}
    (h : SI w wr P n objs ds sent F ao co (some ⟨dg, 0, none⟩) cd) (hj : j < ds.length * 4) (hl : ds'.length = ds.length) (hd : (dvs ds).set j v = dvs ds') : SI w (wr.setCell ⟨dg, j, none⟩ v) P n objs ds' sent F ao co (some ⟨dg, 0, none⟩) cd := by
  have hdg : dg ≠ P := fun e => h.dp (by rw [e]; rfl)
  have hdb := owns_set (v := v) h.db hj
  rw [hd, ← hl] at hdb
  refine ⟨?_, ?_, hdb, h.fP, h.op, by rw [hl]; exact h.dp, by rw [hl]; exact h.od, h.fo, by rw [hl]; exact h.fd, touch_set h.touch (h.fd dg rfl)⟩
  · rw [hl]; exact h.row.setOther (a := ⟨dg, j, none⟩) (Ne.symm hdg) v
  · exact owns_setCell h.ob (fun e => h.od dg e rfl)
theorem SI.reads {w wr : World} {P : Nat} {s : St} {ds : List Db} {sent : Nat} {F : Nat → Prop} {ao : Option Addr} {co : Nat} {ad : Option Addr} {cd : Nat} (h : SI w wr P s.n s.objs ds sent F ao co ad cd) (h0 : 0 < s.objs.length) : ∃ g, ao = some ⟨g, 0, none⟩ ∧ SR wr P s g co := by
  rcases h.ob.2 with ⟨_, e⟩ | ⟨g, cap, cur, e, _⟩
  · omega
  · simp only [Value.slice.injEq] at e
    obtain ⟨rfl, _, rfl⟩ := e
    have hc := h.ob.cells (g := g) rfl
    refine ⟨g, rfl, h.row.cell (by decide), h.row.cell (by decide), h.row.cell (by decide), h.row.cell (by decide), h.row.lt, (h.ob.lt g rfl).2, fun i hi => ?_⟩
    have := hc i (.string (objOf s i)) (by simp [strs, objOf, List.getD_eq_getElem?_getD, hi])
    rw [add_eq0] at this
    exact this
theorem SI.drawn {w wr : World} {P : Nat} {n : Nm} {objs : List ByteArray} {ds : List Db} {sent : Nat} {F : Nat → Prop} {ao : Option Addr} {co : Nat} {ad : Option Addr} {cd : Nat} (h : SI w wr P n objs ds sent F ao co ad cd) : SI w wr.drew P n objs ds sent F ao co ad cd :=
  ⟨h.row, h.ob, h.db, h.fP, h.op, h.dp, h.od, h.fo, h.fd, ⟨h.touch.os, h.touch.tape, h.touch.output, h.touch.size, h.touch.block⟩⟩
end Sn
end Go.Proofs.Ytkgnmcekeeannaa
