import Derived.WalkKit
/-
  A law on append that says where the row lies behind it: where it lay, or in a new block.
-/
namespace Go.Proofs.Ytkgnmcekeeannaa
open Go.RowKit
namespace App

theorem owns_mono {w : World} {B B' e size n : Nat} {v : Value} {xs : List Value} (h : w.ownsRow B e size v n xs) (hB : B' ≤ B) : w.ownsRow B' e size v n xs := by
  obtain ⟨hl, h⟩ := h
  refine ⟨hl, ?_⟩
  rcases h with h | ⟨g, cap, cur, h1, h2, h3⟩
  · exact .inl h
  · exact .inr ⟨g, cap, cur, h1, by omega, h3⟩
theorem grown_any {w w' : World} {row : Option Nat} (h : w.grownBy w' none) : w.grownBy w' row := ⟨h.os, h.tape, h.output, h.size, fun k hk _ => h.block k hk (by simp)⟩

/-- where it lay, or in a new block -/
def Apart (w : World) (v v' : Value) : Prop := v'.ownBlock = v.ownBlock ∨ ∀ k, v'.ownBlock = some k → w.heap.size ≤ k

theorem wpList_append_apart {P : Program} (w : World) {ops : Array Oper} {rest : List Oper} {o : Oper} {a : Act} {Q : Exit → Act → World → Prop} (hgd : o.guard = none) (s x : Operand) (t : TypeId)
    (ho : o.op = .call { callee := .builtin .append, args := #[s, x], argTypes := #[t, t] })
    (base : Nat) (e : TypeId) (i : TypeInfo) (z : Value) (size bytes : Nat) (ht : P.underlying t = some (.slice e)) (hi : P.info? e = some i) (hz : i.zero = some z)
    (hsize : i.size = size) (hby : i.bytes = bytes) (hzs : z.cells.size = size) (hsz : 0 < size)
    (v : Value) (n : Nat) (xs : List Value) (hs : a.eval s = v) (hown : w.ownsRow base e size v n xs)
    (ad : Addr) (m c : Nat) (news : List Value) (hx : a.eval x = .slice (some ad) m c) (hl : news.length = m * size) (hnews : ∀ j u, news[j]? = some u → w.cell? (ad.add j) = some u) (h1 : ∀ u ∈ news, u.oneCell' = true)
    (h63 : n + m ≤ maxLen) (hbytes : (n + m) * bytes ≤ 140737488355328) (hbase : base ≤ w.heap.size)
    (h : ∀ v' w', w'.ownsRow base e size v' (n + m) (xs ++ news) → w.grownBy w' v.ownBlock → Apart w v v' → wpList P ops Q rest (a.put o.dst v') w') (hm : 0 < m) : wpList P ops Q (o :: rest) a w := by
  rcases hown.2 with ⟨rfl, rfl⟩ | ⟨g, cap, cur, rfl, hbg, hg, hnc, hcm, hcs, htake⟩
  · refine wpList_append_grows w hgd s x t ho e i z size bytes ht hi hz hsize hby hzs hsz none 0 0 xs hs (fun _ => ⟨rfl, rfl⟩) hown.1 (fun b hb => by cases hb) ad m c news hx hl hnews h1 (by omega) h63 hbytes (fun v' w' ho' hg' => ?_)
    exact h v' w' (owns_mono ho' hbase) (grown_any hg') (.inr (fun k hk => (ho'.lt k hk).1))
  · by_cases hroom : n + m ≤ cap
    · exact wpList_append_fits w hgd s x t ho base e i size ht hi hsize g n cap xs hs hown ad m c news hx hl hnews h1 hroom (fun w' ho' hg' => h _ w' ho' hg' (.inl rfl))
    · refine wpList_append_grows w hgd s x t ho e i z size bytes ht hi hz hsize hby hzs hsz (some ⟨g, 0, none⟩) n cap xs hs (fun hb => by cases hb) hown.1 (fun b hb => by cases hb; exact hown.cells rfl) ad m c news hx hl hnews h1 (by omega) h63 hbytes (fun v' w' ho' hg' => ?_)
      exact h v' w' (owns_mono ho' hbase) (grown_any hg') (.inr (fun k hk => (ho'.lt k hk).1))

/-- the cells of another row stay -/
theorem cells_stay {w w1 : World} {v : Value} {b : Nat} {x y : Option Value} {i : Nat} {o : Obj} (hg : (w.alloc o).grownBy w1 v.ownBlock) (hb : b < w.heap.size) (hne : v.ownBlock ≠ some b) (h : w.cell? ⟨b, i, none⟩ = x) (e : x = y) : w1.cell? ⟨b, i, none⟩ = y := by
  have hbl : w1.heap[b]? = w.heap[b]? := by
    rw [hg.block b (by simp; omega) (fun e => hne e.symm)]
    exact Below.heap_alloc w o b hb
  rw [← e, ← h]
  exact World.cell?_of_block (a := ⟨b, i, none⟩) hbl
theorem apart_ne {w : World} {v v' : Value} {o : Obj} {b : Nat} (h : Apart (w.alloc o) v v') (hb : b < w.heap.size) (hne : v.ownBlock ≠ some b) : v'.ownBlock ≠ some b := by
  rcases h with h | h
  · rw [h]; exact hne
  · intro e
    have := h b e
    simp at this
    omega
end App
end Go.Proofs.Ytkgnmcekeeannaa
