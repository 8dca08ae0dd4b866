import Derived.Test.YtkgnmcekeeannabW14
import Derived.Deep.RegionHeld3
import Derived.Test.YtkgnmcekeeannabW15
namespace Go.Proofs.Ytkgnmcekeeannab
open Go.RowKit Go.Deep
namespace Ms
open Bs
set_option linter.unusedVariables false

def three (a b c : Int) (i : Nat) : Int := ([a, b, c] : List Int).getD i 0
theorem req_text (x : UInt8) : (⟨#[82]⟩ : ByteArray) ++ (⟨([x] : List UInt8).toArray⟩ : ByteArray) = ⟨([82, x] : List UInt8).toArray⟩ := by
  rw [show (⟨#[82]⟩ : ByteArray) = ⟨([82] : List UInt8).toArray⟩ from rfl, ByteArray.mk_append_mk]; rfl
theorem reqB_succ (n : Nat) (its : Nat → It) (i : Nat) (t : It) (ht : t = its i) : reqB n its i ++ (⟨(([t.o, t.b, t.c] : List Int).map u8w).toArray⟩ : ByteArray) = reqB n its (i + 1) := by
  unfold reqB
  rw [ByteArray.mk_append_mk, itsT, ← ht, List.append_assoc]
  rfl

end Ms
end Go.Proofs.Ytkgnmcekeeannab
namespace Go.Proofs.Ytkgnmcekeeannab
open Go.RowKit Go.Deep
namespace Ms
open Bs
set_option linter.unusedVariables false

def BodyOut (m : M) (e : Ending) : Prop := (ok m ∧ e = .returned (.tuple #[.string (txt (body m)), .bool true])) ∨ (¬ ok m ∧ ∃ s : ByteArray, e = .returned (.tuple #[.string s, .bool false]))

def okV (b : Bool) : Value := .int .i64 (if b then 0 else 6)
end Ms
end Go.Proofs.Ytkgnmcekeeannab
namespace Go.Proofs.Ytkgnmcekeeannab
open Go.RowKit Go.Deep
namespace Sn
open Bs
open Ms (txt text ok M mV mVm WriteOut)
set_option linter.unusedVariables false

theorem obj_size {s : St} (hs : SOk s) {i : Nat} (hi : i < s.objs.length) : 1 ≤ (objOf s i).size ∧ (objOf s i).size ≤ 256 := by
  have e : objOf s i = s.objs[i] := by simp [objOf, List.getD_eq_getElem?_getD, hi]
  rw [e]; exact hs.sz _ (List.getElem_mem hi)
end Sn
end Go.Proofs.Ytkgnmcekeeannab
namespace Go.Proofs.Ytkgnmcekeeannab
open Go.RowKit Go.Deep
namespace Sn
open Bs
open Ms (txt text ok M mV mVm WriteOut owns_setCell)
set_option linter.unusedVariables false

theorem owns_set {w : World} {base e size n cap g j : Nat} {v : Value} {xs : List Value} (h : w.ownsRow base e size (.slice (some ⟨g, 0, none⟩) n cap) n xs) (hj : j < n * size) : (w.setCell ⟨g, j, none⟩ v).ownsRow base e size (.slice (some ⟨g, 0, none⟩) n cap) n (xs.set j v) := by
  refine ⟨by rw [List.length_set]; exact h.1, ?_⟩
  rcases h.2 with ⟨h0, _⟩ | ⟨g', cap', cur, e', hb, hg, h1, h2, h3, h4⟩
  · cases h0
  · simp only [Value.slice.injEq, Option.some.injEq, Addr.mk.injEq, and_true, true_and] at e'
    obtain ⟨rfl, rfl⟩ := e'
    refine .inr ⟨g, cap, cur.setIfInBounds j v, rfl, hb, heap_setCell_same w g j cur e v hg, h1, h2, by simp [h3], ?_⟩
    rw [Array.toList_setIfInBounds, List.take_set, h4]
theorem dvs_get (l : List Db) (d0 : Db) : ∀ (i : Nat), i < l.length → ∀ r, r < 4 → (dvs l)[i * 4 + r]? = (dv (l.getD i d0))[r]? := by
  induction l with
  | nil => intro i hi; simp at hi
  | cons d l ih =>
    intro i hi r hr
    simp only [dvs]
    cases i with
    | zero => rw [List.getElem?_append_left (by simp [dv]; omega)]; simp
    | succ i =>
      rw [List.getElem?_append_right (by simp [dv]; omega)]
      have e : (i + 1) * 4 + r - (dv d).length = i * 4 + r := by simp [dv]; omega
      rw [e, ih i (by simpa using hi) r hr]; simp
theorem dvs_set_owes (l : List Db) (d0 : Db) (v : Nat) : ∀ i, i < l.length → (dvs l).set (i * 4 + 2) (.int .i64 v) = dvs (l.set i { l.getD i d0 with owes := v }) := by
  induction l with
  | nil => intro i hi; simp at hi
  | cons d l ih =>
    intro i hi
    cases i with
    | zero => simp [dvs, dv]
    | succ i =>
      simp only [dvs, List.set_cons_succ]
      rw [List.set_append, if_neg (by simp [dv]; omega)]
      have e : (i + 1) * 4 + 2 - (dv d).length = i * 4 + 2 := by simp [dv]; omega
      rw [e, ih i (by simpa using hi)]; simp
theorem dvs_set_turn (l : List Db) (d0 : Db) (v : Nat) : ∀ i, i < l.length → (dvs l).set (i * 4 + 3) (.int .i64 v) = dvs (l.set i { l.getD i d0 with turn := v }) := by
  induction l with
  | nil => intro i hi; simp at hi
  | cons d l ih =>
    intro i hi
    cases i with
    | zero => simp [dvs, dv]
    | succ i =>
      simp only [dvs, List.set_cons_succ]
      rw [List.set_append, if_neg (by simp [dv]; omega)]
      have e : (i + 1) * 4 + 3 - (dv d).length = i * 4 + 3 := by simp [dv]; omega
      rw [e, ih i (by simpa using hi)]; simp
theorem touch_set {w wr : World} {F : Nat → Prop} {b j : Nat} {x : Value} (h : Touch w wr F) (hb : F b ∨ w.heap.size ≤ b) : Touch w (wr.setCell ⟨b, j, none⟩ x) F :=
  ⟨h.os, h.tape, h.output, by simp; exact h.size, fun c hc hF => by
    rw [heap_setCell_other _ _ _ _ (fun e => ?_), h.block c hc hF]
    rcases hb with hb | hb
    · exact hF (e ▸ hb)
    · have : c = b := e
      omega⟩
end Sn
end Go.Proofs.Ytkgnmcekeeannab
