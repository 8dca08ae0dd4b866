import Derived.Test.YtkgnmcekeeannabW21
/-
  The reference's receiver: Hear whole; what has come of a block.
-/
namespace Go.Proofs.Ytkgnmcekeeannab
open Go.RowKit Go.Deep
namespace Sn
open Bs
open Ms (txt text ok M It mV mVm mBox mRow mRow_new itF itOK ItemsAt Tells ReadOut owns_setCell owns_items icells)
set_option linter.unusedVariables false

/-- what always holds of a receiver -/
structure ROk (r : Rt) : Prop where
  nok : r.n.ok
  kn : r.known ≤ 8
  hl : r.heard.length ≤ 4611686018427387904
  hd : ∀ m ∈ r.heard, m.kind = 1 ∧ Ms.dataOK m ∧ m.sym.size = r.n.size
theorem lenIn_nat {l : List M} (h : ∀ m ∈ l, 0 ≤ m.len ∧ m.len ≤ 256) (o : Int) : 0 ≤ lenIn l o ∧ lenIn l o ≤ 256 := by
  induction l with
  | nil => exact ⟨Int.le_refl _, by show (0 : Int) ≤ 256; decide⟩
  | cons m l ih =>
    unfold lenIn
    split
    · exact h m (by simp)
    · exact ih (fun x hx => h x (by simp [hx]))
theorem ROk.len {r : Rt} (h : ROk r) (o : Nat) : lenIn r.heard o = (r.len o : Int) ∧ r.len o ≤ 256 := by
  have := lenIn_nat (l := r.heard) (fun m hm => by
    obtain ⟨_, hd, _⟩ := h.hd m hm
    obtain ⟨q1, q2, q3, q4, q5, q6, q7, q8, _⟩ := hd
    exact ⟨by omega, q8⟩) (o : Int)
  unfold Rt.len
  omega
theorem comeIn_drop (o b : Int) (k : Nat) (acc l : List M) (i : Nat) (h : i < l.length) (hk : acc.length < k) (x0 : M) : comeIn o b k acc (l.drop i) = if fresh1 o b acc (l.getD i x0) then comeIn o b k (acc ++ [l.getD i x0]) (l.drop (i + 1)) else comeIn o b k acc (l.drop (i + 1)) := by
  have e : l.getD i x0 = l[i] := by simp [List.getD_eq_getElem?_getD, h]
  rw [List.drop_eq_getElem_cons h, e]
  show (if k ≤ acc.length then acc else _) = _
  rw [if_neg (by omega)]
theorem comeIn_full (o b : Int) (k : Nat) (acc l : List M) (h : k ≤ acc.length) : comeIn o b k acc l = acc := by
  cases l with
  | nil => rfl
  | cons m l => show (if k ≤ acc.length then acc else _) = _; rw [if_pos h]
theorem symsOf_app (l : List M) (m : M) : txt (symsOf (l ++ [m])) = txt (symsOf l) ++ m.sym := by
  have e : symsOf (l ++ [m]) = symsOf l ++ m.sym.data.toList := by simp [symsOf]
  rw [e, ← Ms.txt_append, Ms.txt_of]
theorem symsOf_size (l : List M) (h : ∀ m ∈ l, m.sym.size ≤ 16) : (txt (symsOf l)).size ≤ 16 * l.length := by
  induction l with
  | nil => simp [symsOf, txt, ByteArray.size]
  | cons m l ih =>
    have h1 := h m (by simp)
    have h2 := ih (fun x hx => h x (by simp [hx]))
    rw [Ms.txt_size] at h2 ⊢
    have e : (symsOf (m :: l)).length = m.sym.size + (symsOf l).length := by simp [symsOf]
    rw [e, List.length_cons]; omega
theorem cell_lt {w : World} {b j : Nat} {v : Value} (h : w.cell? ⟨b, j, none⟩ = some v) : b < w.heap.size := by
  unfold World.cell? at h
  by_cases e : b < w.heap.size
  · exact e
  · have hn : w.heap[b]? = none := by simp; omega
    simp only [hn] at h
    cases h
theorem owns_cells {w : World} {base e n : Nat} {v : Value} {xs : List Value} (h : w.ownsRow base e 1 v n xs) (h0 : 0 < n) : ∃ g cap, v = .slice (some ⟨g, 0, none⟩) n cap ∧ ∀ j x, xs[j]? = some x → w.cell? ⟨g, j, none⟩ = some x := by
  rcases h.2 with ⟨_, e⟩ | ⟨g, cap, cur, e, _⟩
  · omega
  · subst e
    have hc := h.cells (g := g) rfl
    exact ⟨g, cap, rfl, fun j x hx => by have := hc j x hx; rw [add_eq0] at this; exact this⟩
def nums (l : List M) : List Value := l.map (fun m => .int .i64 m.num)
end Sn
end Go.Proofs.Ytkgnmcekeeannab
