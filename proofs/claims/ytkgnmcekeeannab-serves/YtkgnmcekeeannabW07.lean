import Derived.Test.YtkgnmcekeeannabW06
import Derived.Test.YtkgnmcekeeannabW03
/-
  The landed layout: pieces, New, Blocks, Symbols.
-/
namespace Go.Proofs.Ytkgnmcekeeannab
open Go.RowKit Go.Deep
namespace Sn
open Bs
set_option linter.unusedVariables false

abbrev lBox (a b c : Int) : Obj := .cells #[.int .i64 a, .int .i64 b, .int .i64 c] 77
theorem pieces_eq (x z : Nat) (hx : 1 ≤ x) (hz : 1 ≤ z) : (x - 1) / z + 1 = (x + z - 1) / z := by
  rw [← Nat.add_div_right _ (by omega : 0 < z)]
  congr 1; omega

set_option maxHeartbeats 1000000 in
theorem pieces_any (x z : Nat) (w : World) (hx : x ≤ 4294967296) (hz : 1 ≤ z) (hz2 : z ≤ 65536) :
    Calls Try.prog 81 #[.int .i64 x, .int .i64 z] w fun e w' => e = .returned (.int .i64 (((x + z - 1) / z : Nat) : Int)) ∧ w' = w := by
  by_cases h0 : x = 0
  · subst h0
    have e : (0 + z - 1) / z = 0 := Nat.div_eq_of_lt (by omega)
    rw [e]
    clear e
    go_enter Try.func81, Try.ntmps81
    go_wp2
    go_ret
    exact ⟨rfl, rfl⟩
  · rw [← pieces_eq x z (by omega) hz]
    have h1 : 1 ≤ x := by omega
    clear h0
    have hd2 : ((x : Int) - 1) / (z : Int) = (((x - 1) / z : Nat) : Int) := by
      rw [show ((x : Int) - 1) = ((x - 1 : Nat) : Int) from by omega, ← Int.natCast_ediv]
    have hle : (x - 1) / z ≤ x - 1 := Nat.div_le_self _ _
    generalize (x - 1) / z = Q at *
    go_enter Try.func81, Try.ntmps81
    go_wp2
    go_ret
    exact ⟨by simp [*], rfl⟩

set_option maxHeartbeats 1000000 in
theorem layNew_any (a b c : Int) (w : World) :
    Calls Try.prog 52 #[.int .i64 a, .int .i64 b, .int .i64 c] w fun e w' => e = .returned (.tuple #[if rightE a b c = 0 then nV a b c else nV 0 0 0, .int .i64 (rightE a b c)]) ∧ Below w.heap.size w w' := by
  obtain ⟨E, hE⟩ : ∃ E, E = rightE a b c := ⟨_, rfl⟩
  have HE : Hid (E = rightE a b c) := hE
  rw [← hE]
  clear hE
  by_cases a1 : a < 1 ∨ 16 < a
  · have e : E = 2 := by rw [HE.out, rightE, if_pos a1]
    subst e
    rw [if_neg (by decide)]
    rcases a1 with h | h
    all_goals
      go_enter Try.func52, Try.ntmps52
      go_wp2
      refine bodyPost_ret (v := .tuple #[nV 0 0 0, .int .i64 2]) (by simp [results, Try.results52, go_sem]) rfl ?_
      exact ⟨rfl, (Below.refl _ _).alloc (Nat.le_refl _) _⟩
  · by_cases b1 : b < 1 ∨ 8 < b
    · have e : E = 3 := by rw [HE.out, rightE, if_neg a1, if_pos b1]
      subst e
      rw [if_neg (by decide)]
      have a2 : 1 ≤ a ∧ a ≤ 16 := by omega
      obtain ⟨a3, a4⟩ := a2
      clear a1
      rcases b1 with h | h
      all_goals
        go_enter Try.func52, Try.ntmps52
        go_wp2
        refine bodyPost_ret (v := .tuple #[nV 0 0 0, .int .i64 3]) (by simp [results, Try.results52, go_sem]) rfl ?_
        exact ⟨rfl, (Below.refl _ _).alloc (Nat.le_refl _) _⟩
    · by_cases c1 : c < 0 ∨ 8 < c
      · have e : E = 4 := by rw [HE.out, rightE, if_neg a1, if_neg b1, if_pos c1]
        subst e
        rw [if_neg (by decide)]
        have a2 : 1 ≤ a ∧ a ≤ 16 := by omega
        obtain ⟨a3, a4⟩ := a2
        have b2 : 1 ≤ b ∧ b ≤ 8 := by omega
        obtain ⟨b3, b4⟩ := b2
        clear a1 b1
        rcases c1 with h | h
        all_goals
          go_enter Try.func52, Try.ntmps52
          go_wp2
          refine bodyPost_ret (v := .tuple #[nV 0 0 0, .int .i64 4]) (by simp [results, Try.results52, go_sem]) rfl ?_
          exact ⟨rfl, (Below.refl _ _).alloc (Nat.le_refl _) _⟩
      · have e : E = 0 := by rw [HE.out, rightE, if_neg a1, if_neg b1, if_neg c1]
        subst e
        rw [if_pos rfl]
        have a2 : 1 ≤ a ∧ a ≤ 16 := by omega
        obtain ⟨a3, a4⟩ := a2
        have b2 : 1 ≤ b ∧ b ≤ 8 := by omega
        obtain ⟨b3, b4⟩ := b2
        have c2 : 0 ≤ c ∧ c ≤ 8 := by omega
        obtain ⟨c3, c4⟩ := c2
        clear a1 b1 c1
        go_enter Try.func52, Try.ntmps52
        go_wp2
        refine bodyPost_ret (v := .tuple #[nV a b c, .int .i64 0]) (by simp [results, Try.results52, go_sem]) rfl ?_
        exact ⟨rfl, (Below.refl _ _).alloc (Nat.le_refl _) _⟩

set_option maxHeartbeats 1000000 in
theorem layBlocks (n : Nm) (len : Nat) (w : World) (hn : n.ok) (hl : len ≤ 65536) :
    Calls Try.prog 71 #[nmV n, .int .i64 len] w fun e w' => e = .returned (.int .i64 (n.blocks len : Nat)) ∧ Below w.heap.size w w' := by
  obtain ⟨z, bk, sp⟩ := n
  obtain ⟨h1, h2, h3, h4, _⟩ := hn
  simp only at h1 h2 h3 h4
  have B0 : Below w.heap.size w (w.alloc (lBox z bk sp)) := (Below.refl _ _).alloc (Nat.le_refl _) _
  have HP := pieces_any len z (w.alloc (lBox z bk sp)) (by omega) h1 (by omega)
  have hle : (len + z - 1) / z ≤ len + z - 1 := Nat.div_le_self _ _
  have HV : Hid ((⟨z, bk, sp⟩ : Nm).blocks len = ((len + z - 1) / z + bk - 1) / bk) := rfl
  rw [HV.out]
  generalize (len + z - 1) / z = A at *
  have HQ := pieces_any A bk (w.alloc (lBox z bk sp)) (by omega) h3 (by omega)
  go_enter Try.func71, Try.ntmps71
  go_wp2_with fail
  refine HP.mono ?_
  rintro e w1 ⟨rfl, rfl⟩
  clear HP
  go_wp2_with fail
  refine HQ.mono ?_
  rintro e w1 ⟨rfl, rfl⟩
  clear HQ
  go_wp2
  go_ret
  exact ⟨rfl, B0⟩
theorem many_cases (n : Nm) (hn : n.ok) (len b : Nat) : n.many len b = if b < n.blocks len then (if b + 1 < n.blocks len then n.block else n.all len - b * n.block) else 0 := by
  obtain ⟨_, _, h3, _⟩ := hn
  have e1 : ∀ c, c < n.blocks len ↔ c * n.block < n.all len := fun c => by
    unfold Nm.blocks
    rw [← Nat.succ_le_iff, Nat.le_div_iff_mul_le h3, Nat.succ_mul]; omega
  unfold Nm.many
  by_cases h : b < n.blocks len
  · rw [if_pos h]
    by_cases g : b + 1 < n.blocks len
    · rw [if_pos g]
      have := (e1 (b + 1)).1 g
      rw [Nat.succ_mul] at this
      omega
    · rw [if_neg g]
      have := mt (e1 (b + 1)).2 g
      rw [Nat.succ_mul] at this
      omega
  · rw [if_neg h]
    have := mt (e1 b).2 h
    omega
set_option maxHeartbeats 1000000 in
theorem laySymbols (n : Nm) (len b : Nat) (w : World) (hn : n.ok) (hl : len ≤ 65536) (hbb : b ≤ 65536) :
    Calls Try.prog 69 #[nmV n, .int .i64 len, .int .i64 b] w fun e w' => e = .returned (.int .i64 (n.many len b : Nat)) ∧ Below w.heap.size w w' := by
  have B0 : Below w.heap.size w (w.alloc (lBox n.size n.block n.spare)) := (Below.refl _ _).alloc (Nat.le_refl _) _
  have HBL := layBlocks n len (w.alloc (lBox n.size n.block n.spare)) hn hl
  have HV : Hid (n.many len b = if b < n.blocks len then (if b + 1 < n.blocks len then n.block else n.all len - b * n.block) else 0) := many_cases n hn len b
  have hA : n.all len ≤ 70000 := by
    unfold Nm.all
    obtain ⟨h1, h2, _⟩ := hn
    have : (len + n.size - 1) / n.size ≤ len + n.size - 1 := Nat.div_le_self _ _
    omega
  have hBl : n.blocks len ≤ 80000 := by
    unfold Nm.blocks
    obtain ⟨_, _, h3, h4, _⟩ := hn
    have : (n.all len + n.block - 1) / n.block ≤ n.all len + n.block - 1 := Nat.div_le_self _ _
    omega
  have e1 : b < n.blocks len → b * n.block < n.all len := fun h => by
    obtain ⟨_, _, h3, _⟩ := hn
    unfold Nm.blocks at h
    rw [← Nat.succ_le_iff, Nat.le_div_iff_mul_le h3, Nat.succ_mul] at h
    omega
  obtain ⟨z, bk, sp⟩ := n
  obtain ⟨h1, h2, h3, h4, _⟩ := hn
  simp only at *
  have HP := fun W => pieces_any len z W (by omega) h1 (by omega)
  have HA : Hid ((⟨z, bk, sp⟩ : Nm).all len = (len + z - 1) / z) := rfl
  rw [← HA.out] at HP
  clear HA
  generalize (⟨z, bk, sp⟩ : Nm).many len b = R at *
  generalize (⟨z, bk, sp⟩ : Nm).blocks len = BL at *
  generalize (⟨z, bk, sp⟩ : Nm).all len = A at *
  have hP : b * bk ≤ 65536 * 8 := Nat.mul_le_mul hbb h4
  have hPc : (b : Int) * (bk : Int) = ((b * bk : Nat) : Int) := by simp
  have HV2 : Hid (R = if b < BL then (if b + 1 < BL then bk else A - b * bk) else 0) := HV.out
  generalize b * bk = P at *
  clear HV
  go_enter Try.func69, Try.ntmps69
  go_wp2_with fail
  refine HBL.mono ?_
  rintro e w1 ⟨rfl, hb1⟩
  have B1 := B0.trans (hb1.mono (by simp))
  have d0 : w1.cell? ⟨w.heap.size, 0, none⟩ = some (.int .i64 z) := (hb1.cell (p := ⟨w.heap.size, 0, none⟩) (by simp)).trans (cell_new rfl rfl)
  have d1 : w1.cell? ⟨w.heap.size, 1, none⟩ = some (.int .i64 bk) := (hb1.cell (p := ⟨w.heap.size, 1, none⟩) (by simp)).trans (cell_new rfl rfl)
  clear HBL hb1 B0
  by_cases g0 : b < BL
  · have t0 : ((b : Int) < (BL : Int)) := by omega
    by_cases g1 : b + 1 < BL
    · have t1 : ((b : Int) < (BL : Int) - 1) := by omega
      have e : R = bk := by rw [HV2.out, if_pos g0, if_pos g1]
      subst e
      clear g0 g1
      go_wp2
      go_ret
      exact ⟨rfl, B1⟩
    · have t1 : ((BL : Int) - 1 ≤ (b : Int)) := by omega
      have e : R = A - P := by rw [HV2.out, if_pos g0, if_neg g1]
      have HE : Hid ((R : Int) = (A : Int) - (P : Int)) := by have := e1 g0; unfold Hid; rw [e]; omega
      have k1 : (P : Int) < (A : Int) := by have := e1 g0; omega
      clear g0 g1 e e1
      go_wp2_with fail
      refine (HP _).mono ?_
      rintro e w2 ⟨rfl, rfl⟩
      go_wp2
      go_ret
      exact ⟨by rw [HE.out]; simp [*], B1⟩
  · have t0 : ((BL : Int) ≤ (b : Int)) := by omega
    have e : R = 0 := by rw [HV2.out, if_neg g0]
    subst e
    clear g0
    go_wp2
    go_ret
    exact ⟨rfl, B1⟩
end Sn
end Go.Proofs.Ytkgnmcekeeannab
/-
  What the caller writes over lists of items: rows of one mark, none over another.
-/
namespace Go.Proofs.Ytkgnmcekeeannab
open Go.RowKit Go.Deep
namespace Ms
open Bs
set_option linter.unusedVariables false

/-- where it lay, and nothing else has turned; or in a new block, and nothing has turned -/
def Two (w w' : World) (v v' : Value) : Prop := (v'.ownBlock = v.ownBlock ∧ w.grownBy w' v.ownBlock) ∨ (w.grownBy w' none ∧ ∀ k, v'.ownBlock = some k → w.heap.size ≤ k)
theorem wpList_append_two {P : Program} (w : World) {ops : Array Oper} {rest : List Oper} {o : Oper} {a : Act} {Q : Exit → Act → World → Prop} (hgd : o.guard = none) (s x : Operand) (t : TypeId)
    (ho : o.op = .call { callee := .builtin .append, args := #[s, x], argTypes := #[t, t] })
    (e : TypeId) (i : TypeInfo) (z : Value) (size bytes : Nat) (ht : P.underlying t = some (.slice e)) (hi : P.info? e = some i) (hz : i.zero = some z)
    (hsize : i.size = size) (hby : i.bytes = bytes) (hzs : z.cells.size = size) (hsz : 0 < size)
    (v : Value) (n : Nat) (xs : List Value) (hs : a.eval s = v) (hown : w.ownsRow 0 e size v n xs)
    (ad : Addr) (m c : Nat) (news : List Value) (hx : a.eval x = .slice (some ad) m c) (hl : news.length = m * size) (hnews : ∀ j u, news[j]? = some u → w.cell? (ad.add j) = some u) (h1 : ∀ u ∈ news, u.oneCell' = true)
    (h63 : n + m ≤ maxLen) (hbytes : (n + m) * bytes ≤ 140737488355328) (hm : 0 < m)
    (h : ∀ v' w', w'.ownsRow 0 e size v' (n + m) (xs ++ news) → Two w w' v v' → wpList P ops Q rest (a.put o.dst v') w') : wpList P ops Q (o :: rest) a w := by
  rcases hown.2 with ⟨rfl, rfl⟩ | ⟨g, cap, cur, rfl, hbg, hg, hnc, hcm, hcs, htake⟩
  · refine wpList_append_grows w hgd s x t ho e i z size bytes ht hi hz hsize hby hzs hsz none 0 0 xs hs (fun _ => ⟨rfl, rfl⟩) hown.1 (fun b hb => by cases hb) ad m c news hx hl hnews h1 (by omega) h63 hbytes (fun v' w' ho' hg' => ?_)
    exact h v' w' (owns_mono ho' (Nat.zero_le _)) (.inr ⟨hg', fun k hk => (ho'.lt k hk).1⟩)
  · by_cases hroom : n + m ≤ cap
    · exact wpList_append_fits w hgd s x t ho 0 e i size ht hi hsize g n cap xs hs hown ad m c news hx hl hnews h1 hroom (fun w' ho' hg' => h _ w' ho' (.inl ⟨rfl, hg'⟩))
    · refine wpList_append_grows w hgd s x t ho e i z size bytes ht hi hz hsize hby hzs hsz (some ⟨g, 0, none⟩) n cap xs hs (fun hb => by cases hb) hown.1 (fun b hb => by cases hb; exact hown.cells rfl) ad m c news hx hl hnews h1 (by omega) h63 hbytes (fun v' w' ho' hg' => ?_)
      exact h v' w' (owns_mono ho' (Nat.zero_le _)) (.inr ⟨hg', fun k hk => (ho'.lt k hk).1⟩)

/-- an item of three times this mark -/
def kk (k : Int) : Nat → It := fun _ => ⟨k, k, k⟩
/-- so many items, all of the mark -/
def KAt (w : World) (ao : Option Addr) (q : Nat) (k : Int) : Prop := q = 0 ∨ ∃ b, ao = some ⟨b, 0, none⟩ ∧ b < w.heap.size ∧ ∀ t, t < q * 3 → w.cell? ⟨b, t, none⟩ = some (.int .i64 k)
theorem icell_kk (k : Int) (j : Nat) : icell (kk k) j = .int .i64 k := by unfold icell kk; split; rfl; split <;> rfl
theorem KAt.of_owns {w : World} {base q cap : Nat} {ao : Option Addr} {k : Int} (h : w.ownsRow base 106 3 (.slice ao q cap) q (icells (kk k) q)) : KAt w ao q k := by
  rcases h.2 with ⟨_, h0⟩ | ⟨g, cap', cur, e, _⟩
  · exact .inl h0
  · simp only [Value.slice.injEq] at e
    obtain ⟨rfl, _, _⟩ := e
    have hc := h.cells (g := g) rfl
    refine .inr ⟨g, rfl, (h.lt g rfl).2, fun t ht => ?_⟩
    have := hc t _ (icells_get (kk k) q t ht)
    rw [add_eq0, icell_kk] at this
    exact this
theorem KAt.items {w : World} {ao : Option Addr} {q : Nat} {k : Int} (h : KAt w ao q k) : ItemsAt w ao q (kk k) := by
  rcases h with h | ⟨b, h1, h2, h3⟩
  · exact .inl h
  · exact .inr ⟨b, 0, h1, h2, fun i hi => by rw [Nat.zero_add]; exact ⟨h3 _ (by omega), h3 _ (by omega), h3 _ (by omega)⟩⟩
theorem KAt.stay {w w' : World} {ao : Option Addr} {q : Nat} {k : Int} (h : KAt w ao q k) (hsz : w.heap.size ≤ w'.heap.size) (hb : ∀ b, ao = some ⟨b, 0, none⟩ → b < w.heap.size → w'.heap[b]? = w.heap[b]?) : KAt w' ao q k := by
  rcases h with h | ⟨b, h1, h2, h3⟩
  · exact .inl h
  · refine .inr ⟨b, h1, by omega, fun t ht => ?_⟩
    rw [← h3 t ht]
    exact World.cell?_of_block (a := ⟨b, t, none⟩) (hb b h1 h2)
theorem ownBlock_some (b q c : Nat) : (Value.slice (some ⟨b, 0, none⟩) q c).ownBlock = some b := rfl

/-- between two rounds: 'l' has q items, all of the mark; the lists that were laid down so far are i + 1 -/
structure MI (w wr : World) (X : Nat) (own0 : Option Nat) (n : Nat) (k : Int) (i q : Nat) (al : Option Addr) (cl : Nat) (aA : Option Addr) (cA : Nat) (a : Nat → Option Addr) (c : Nat → Nat) : Prop where
  own : wr.ownsRow 0 106 3 (.slice al q cl) q (icells (kk k) q)
  all : wr.ownsRow 0 22 1 (.slice aA (i + 1) cA) (i + 1) ((List.range (i + 1)).map (fun j => .slice (a j) (n + j) (c j)))
  each : ∀ j, j ≤ i → KAt wr (a j) (n + j) k
  apart : ∀ j, j ≤ i → 0 < n + j → ∀ b, a j = some ⟨b, 0, none⟩ → (Value.slice aA (i + 1) cA).ownBlock ≠ some b
  le : ∀ j, j ≤ i → n + j ≤ q
  xc : ∀ t, t < 3 → wr.cell? ⟨X, t, none⟩ = some (.int .i64 k)
  xlt : X < wr.heap.size
  xl : (Value.slice al q cl).ownBlock ≠ some X
  xa : (Value.slice aA (i + 1) cA).ownBlock ≠ some X
  la : ∀ b, (Value.slice al q cl).ownBlock = some b → (Value.slice aA (i + 1) cA).ownBlock ≠ some b
  frame : w.grownBy wr own0
  lown : (Value.slice al q cl).ownBlock = own0 ∨ ∀ b, (Value.slice al q cl).ownBlock = some b → w.heap.size ≤ b
  aown : ∀ b, (Value.slice aA (i + 1) cA).ownBlock = some b → w.heap.size ≤ b
  eown : ∀ j, j ≤ i → 0 < n + j → ∀ b, a j = some ⟨b, 0, none⟩ → own0 = some b ∨ w.heap.size ≤ b

theorem grown_any {w w' : World} {row : Option Nat} (h : w.grownBy w' none) : w.grownBy w' row := ⟨h.os, h.tape, h.output, h.size, fun k hk _ => h.block k hk (by simp)⟩
theorem two_block {wr w1 : World} {o : Obj} {v v' : Value} (h : Two (wr.alloc o) w1 v v') (b : Nat) (hb : b < wr.heap.size) (hne : v.ownBlock ≠ some b) : w1.heap[b]? = wr.heap[b]? := by
  have ha : (wr.alloc o).heap[b]? = wr.heap[b]? := Below.heap_alloc wr o b hb
  rcases h with ⟨_, h⟩ | ⟨h, _⟩
  · rw [h.block b (by simp; omega) (fun e => hne e.symm), ha]
  · rw [h.block b (by simp; omega) (by simp), ha]
theorem two_size {wr w1 : World} {o : Obj} {v v' : Value} (h : Two (wr.alloc o) w1 v v') : wr.heap.size + 1 ≤ w1.heap.size := by
  rcases h with ⟨_, h⟩ | ⟨h, _⟩
  · have := h.size; simp at this; omega
  · have := h.size; simp at this; omega
theorem two_grown {wr w1 : World} {o : Obj} {v v' : Value} (h : Two (wr.alloc o) w1 v v') : wr.grownBy w1 v.ownBlock := by
  rcases h with ⟨_, h⟩ | ⟨h, _⟩
  · exact (World.grownBy_alloc wr o _).trans h
  · exact (World.grownBy_alloc wr o _).trans (grown_any h)
theorem two_new {wr w1 : World} {o : Obj} {v v' : Value} (h : Two (wr.alloc o) w1 v v') (b : Nat) (hv : v'.ownBlock = some b) : v.ownBlock = some b ∨ wr.heap.size < b := by
  rcases h with ⟨h, _⟩ | ⟨_, h⟩
  · exact .inl (h ▸ hv)
  · have := h b hv; simp at this; exact .inr (by omega)
/-- frames go on: what is written lies where the first list lay, or is new -/
theorem frame_on {w wr w1 : World} {own0 row : Option Nat} (h : w.grownBy wr own0) (hg : wr.grownBy w1 row) (hr : row = own0 ∨ ∀ b, row = some b → w.heap.size ≤ b) : w.grownBy w1 own0 := by
  refine ⟨hg.os.trans h.os, hg.tape.trans h.tape, hg.output.trans h.output, Nat.le_trans h.size hg.size, fun b hb hne => ?_⟩
  rw [hg.block b (Nat.lt_of_lt_of_le hb h.size) (fun e => ?_), h.block b hb hne]
  rcases hr with hr | hr
  · exact hne (e.trans hr)
  · have := hr b e.symm; omega
theorem MI.more_l {w wr w1 : World} {X : Nat} {own0 : Option Nat} {n : Nat} {k : Int} {i q : Nat} {al : Option Addr} {cl : Nat} {aA : Option Addr} {cA : Nat} {a : Nat → Option Addr} {c : Nat → Nat} {o : Obj} {al2 : Option Addr} {cl2 : Nat}
    (h : MI w wr X own0 n k i q al cl aA cA a c) (hX : X < w.heap.size + 1) (hown : w1.ownsRow 0 106 3 (.slice al2 (q + 1) cl2) (q + 1) (icells (kk k) q ++ [.int .i64 k, .int .i64 k, .int .i64 k])) (h2 : Two (wr.alloc o) w1 (.slice al q cl) (.slice al2 (q + 1) cl2)) :
    MI w w1 X own0 n k i (q + 1) al2 cl2 aA cA a c := by
  have hs := two_size h2
  have hown' : w1.ownsRow 0 106 3 (.slice al2 (q + 1) cl2) (q + 1) (icells (kk k) (q + 1)) := by rw [icells_succ]; exact hown
  have hbl : ∀ b, b < wr.heap.size → (Value.slice al q cl).ownBlock ≠ some b → w1.heap[b]? = wr.heap[b]? := fun b hb hne => two_block h2 b hb hne
  refine ⟨hown', ?_, fun j hj => ?_, h.apart, fun j hj => by have := h.le j hj; omega, fun t ht => ?_, by have := h.xlt; omega, fun e => ?_, h.xa, fun b hb => ?_, frame_on h.frame (two_grown h2) h.lown, ?_, h.aown, h.eown⟩
  · refine ⟨h.all.1, ?_⟩
    rcases h.all.2 with hn | ⟨g, cap, cur, e, hb, hg, rest⟩
    · exact .inl hn
    · refine .inr ⟨g, cap, cur, e, hb, ?_, rest⟩
      rw [hbl g (Array.getElem?_eq_some_iff.1 hg).1 (fun e' => h.la g e' (by rw [e]; rfl))]
      exact hg
  · -- the lists laid down
    rcases h.each j hj with h0 | ⟨b, hb1, hb2, hb3⟩
    · exact .inl h0
    · by_cases hsame : (Value.slice al q cl).ownBlock = some b
      · rcases h2 with ⟨e2, _⟩ | ⟨g2, _⟩
        · have hk := KAt.of_owns hown'
          rcases hk with h0 | ⟨b', hb1', hb2', hb3'⟩
          · omega
          · have : b' = b := by
              rw [hb1'] at e2
              rw [hsame] at e2
              exact Option.some.inj e2
            subst this
            exact .inr ⟨b', hb1, hb2', fun t ht => hb3' t (by have := h.le j hj; omega)⟩
        · refine .inr ⟨b, hb1, by omega, fun t ht => ?_⟩
          rw [← hb3 t ht]
          exact World.cell?_of_block (a := ⟨b, t, none⟩) ((g2.block b (by simp; omega) (by simp)).trans (Below.heap_alloc wr o b hb2))
      · refine .inr ⟨b, hb1, by omega, fun t ht => ?_⟩
        rw [← hb3 t ht]
        exact World.cell?_of_block (a := ⟨b, t, none⟩) (hbl b hb2 hsame)
  · rw [← h.xc t ht]
    exact World.cell?_of_block (a := ⟨X, t, none⟩) (hbl X h.xlt h.xl)
  · rcases two_new h2 X e with e' | e'
    · exact h.xl e'
    · have := h.xlt; omega
  · rcases two_new h2 b hb with e' | e'
    · exact h.la b e'
    · intro e
      have := (h.all.lt b e).2
      omega
  · rcases h2 with ⟨e2, _⟩ | ⟨_, g2⟩
    · rw [e2]; exact h.lown
    · exact .inr (fun b hb => by have := g2 b hb; have := h.frame.size; simp at *; omega)
theorem MI.more_a {w wr w1 : World} {X : Nat} {own0 : Option Nat} {n : Nat} {k : Int} {i q : Nat} {al : Option Addr} {cl : Nat} {aA : Option Addr} {cA : Nat} {a : Nat → Option Addr} {c : Nat → Nat} {o : Obj} {aA2 : Option Addr} {cA2 : Nat}
    (h : MI w wr X own0 n k i q al cl aA cA a c) (hq : q = n + (i + 1)) (hown : w1.ownsRow 0 22 1 (.slice aA2 (i + 1 + 1) cA2) (i + 1 + 1) ((List.range (i + 1)).map (fun j => .slice (a j) (n + j) (c j)) ++ [.slice al q cl])) (h2 : Two (wr.alloc o) w1 (.slice aA (i + 1) cA) (.slice aA2 (i + 1 + 1) cA2)) :
    MI w w1 X own0 n k (i + 1) q al cl aA2 cA2 (fun j => if j = i + 1 then al else a j) (fun j => if j = i + 1 then cl else c j) := by
  have hs := two_size h2
  have hbl : ∀ b, b < wr.heap.size → (Value.slice aA (i + 1) cA).ownBlock ≠ some b → w1.heap[b]? = wr.heap[b]? := fun b hb hne => two_block h2 b hb hne
  have hkl := KAt.of_owns h.own
  have hab : ∀ b, b < wr.heap.size → (Value.slice aA (i + 1) cA).ownBlock ≠ some b → (Value.slice aA2 (i + 1 + 1) cA2).ownBlock ≠ some b := fun b hb hne e => by
    rcases two_new h2 b e with e' | e'
    · exact hne e'
    · omega
  refine ⟨?_, ?_, fun j hj => ?_, fun j hj hpos b hb => ?_, fun j hj => ?_, fun t ht => ?_, by have := h.xlt; omega, h.xl, hab X h.xlt h.xa, fun b hb => hab b (h.own.lt b hb).2 (h.la b hb), frame_on h.frame (two_grown h2) (.inr h.aown), h.lown, fun b hb => ?_, fun j hj hpos b hb => ?_⟩
  · refine ⟨h.own.1, ?_⟩
    rcases h.own.2 with hn | ⟨g, cap, cur, e, hb, hg, rest⟩
    · exact .inl hn
    · refine .inr ⟨g, cap, cur, e, hb, ?_, rest⟩
      rw [hbl g (Array.getElem?_eq_some_iff.1 hg).1 (h.la g (by rw [e]; rfl))]
      exact hg
  · rw [List.range_succ, List.map_append]
    have e1 : (List.range (i + 1)).map (fun j => Value.slice (if j = i + 1 then al else a j) (n + j) (if j = i + 1 then cl else c j)) = (List.range (i + 1)).map (fun j => .slice (a j) (n + j) (c j)) := by
      refine List.map_congr_left (fun j hj => ?_)
      have : j < i + 1 := by simpa using hj
      simp [show ¬ j = i + 1 by omega]
    rw [e1]
    simp only [List.map_cons, List.map_nil, if_true]
    rw [← hq]
    exact hown
  · by_cases e : j = i + 1
    · subst e
      simp only [if_true]
      rw [← hq]
      exact hkl.stay (by omega) (fun b hb hlt => hbl b hlt (h.la b (by rw [hb]; rfl)))
    · simp only [e, if_false]
      by_cases h0 : n + j = 0
      · exact .inl h0
      · exact (h.each j (by omega)).stay (by omega) (fun b hb hlt => hbl b hlt (h.apart j (by omega) (by omega) b hb))
  · by_cases e : j = i + 1
    · simp only [e, if_true] at hb
      rcases hkl with h0 | ⟨b', hb1, hb2, _⟩
      · omega
      · rw [hb] at hb1
        simp only [Option.some.injEq, Addr.mk.injEq, and_true] at hb1
        subst hb1
        exact hab b hb2 (h.la b (by rw [hb]; rfl))
    · simp only [e, if_false] at hb
      rcases h.each j (by omega) with h0 | ⟨b', hb1, hb2, _⟩
      · omega
      · rw [hb] at hb1
        simp only [Option.some.injEq, Addr.mk.injEq, and_true] at hb1
        subst hb1
        exact hab b hb2 (h.apart j (by omega) hpos b hb)
  · by_cases e : j = i + 1
    · omega
    · exact h.le j (by omega)
  · rw [← h.xc t ht]
    exact World.cell?_of_block (a := ⟨X, t, none⟩) (hbl X h.xlt h.xa)
  · rcases two_new h2 b hb with e' | e'
    · exact h.aown b e'
    · have := h.frame.size; omega
  · by_cases e : j = i + 1
    · simp only [e, if_true] at hb
      have ho : (Value.slice al q cl).ownBlock = some b := by rw [hb]; rfl
      rcases h.lown with hl | hl
      · exact .inl (hl ▸ ho)
      · exact .inr (hl b ho)
    · simp only [e, if_false] at hb
      exact h.eown j (by omega) hpos b hb
end Ms
end Go.Proofs.Ytkgnmcekeeannab
