import Derived.Test.YtkgnmcekeeannaaGreatY19
import Derived.Test.YtkgnmcekeeannaaGreatY33
/-
  The landed receiver in memory; NewReceiver.
-/
namespace Go.Proofs.YtkgnmcekeeannaaGreat
open Go.RowKit Go.Deep
namespace Sn
open Bs
open Ms (M It txt text ok owns_setCell)
set_option linter.unusedVariables false

/-- what the landed receiver keeps: of how many objects it knows, their lengths, the numbers and the bytes that have come of their blocks, how many were taken -/
structure LR where
  n : Nm
  kn : Nat
  ln : Nat → Nat
  nm : Nat → Nat → List Int
  sm : Nat → Nat → List UInt8
  tk : Nat
def LR.of (r : Rt) : LR := ⟨r.n, r.known, r.len, fun o b => (r.come o b).map M.num, fun o b => symsOf (r.come o b), r.taken⟩
def LR.live (r : LR) (o : Nat) : Prop := o < r.kn ∧ r.ln o ≠ 0 ∧ r.tk ≤ o
def LR.bks (r : LR) (o : Nat) : Nat := r.n.blocks (r.ln o)
/-- what a block of the heap is for -/
structure Slot where
  kind : Nat
  o : Nat
  b : Nat
abbrev Slot.no : Slot := ⟨0, 0, 0⟩
abbrev Slot.rcv : Slot := ⟨1, 0, 0⟩
abbrev Slot.objs : Slot := ⟨2, 0, 0⟩
abbrev Slot.blks (o : Nat) : Slot := ⟨3, o, 0⟩
abbrev Slot.nums (o b : Nat) : Slot := ⟨4, o, b⟩
abbrev Slot.syms (o b : Nat) : Slot := ⟨5, o, b⟩
def painted (K : Nat → Slot) (s : Slot) (n : Nat) : Nat → Slot := fun x => if n ≤ x then s else K x
theorem painted_old {K : Nat → Slot} {s : Slot} {n x : Nat} (h : x < n) : painted K s n x = K x := by unfold painted; rw [if_neg (by omega)]
theorem painted_new {K : Nat → Slot} {s : Slot} {n x : Nat} (h : n ≤ x) : painted K s n x = s := by unfold painted; rw [if_pos h]
def gval (r : LR) (D : Nat → Nat) (o : Nat) : Value := if r.ln o ≠ 0 ∧ r.tk ≤ o then .slice (some ⟨D o, 0, none⟩) (r.bks o) (r.bks o) else .slice none 0 0
def gcell (r : LR) (D : Nat → Nat) (j : Nat) : Value := if j % 2 = 0 then .int .i64 (r.ln (j / 2)) else gval r D (j / 2)
def gcells (r : LR) (D : Nat → Nat) (n : Nat) : List Value := (List.range (n * 2)).map (gcell r D)
theorem gcells_length (r : LR) (D : Nat → Nat) (n : Nat) : (gcells r D n).length = n * 2 := by simp [gcells]
theorem gcells_get (r : LR) (D : Nat → Nat) (n j : Nat) (h : j < n * 2) : (gcells r D n)[j]? = some (gcell r D j) := by simp [gcells, h]
theorem gcells_succ (r : LR) (D : Nat → Nat) (n : Nat) : gcells r D (n + 1) = gcells r D n ++ [.int .i64 (r.ln n), gval r D n] := by
  unfold gcells
  rw [show (n + 1) * 2 = n * 2 + 1 + 1 from by omega, List.range_succ, List.range_succ]
  simp only [List.map_append, List.map_cons, List.map_nil, List.append_assoc, List.cons_append, List.nil_append]
  unfold gcell
  rw [if_pos (by omega), if_neg (by omega), show n * 2 / 2 = n from by omega, show (n * 2 + 1) / 2 = n from by omega]
theorem gcells_congr {r r' : LR} {D D' : Nat → Nat} {n : Nat} (h1 : ∀ o, o < n → r.ln o = r'.ln o) (h2 : ∀ o, o < n → gval r D o = gval r' D' o) : gcells r D n = gcells r' D' n := by
  unfold gcells
  refine List.map_congr_left (fun j hj => ?_)
  have hj' := List.mem_range.1 hj
  unfold gcell
  rw [h1 _ (by omega), h2 _ (by omega)]
def vRow (n : Nm) (vo : Value) (tk : Nat) (j : Nat) : Value := ([.int .i64 n.size, .int .i64 n.block, .int .i64 n.spare, vo, .int .i64 tk] : List Value).getD j undef
def bRow (nv sv : Nat → Value) (j : Nat) : Value := if j % 2 = 0 then nv (j / 2) else sv (j / 2)
def ints (l : List Int) : List Value := l.map (fun x => .int .i64 x)
/-- the landed receiver in memory; K: what for; F: where it lies -/
structure LRI (w : World) (P : Nat) (r : LR) (F : Nat → Prop) (K : Nat → Slot) (ao : Option Addr) (co : Nat) (D : Nat → Nat) (nv sv : Nat → Nat → Value) : Prop where
  row : w.rowIs P 62 5 (vRow r.n (.slice ao r.kn co) r.tk)
  ob : w.ownsRow 0 125 2 (.slice ao r.kn co) r.kn (gcells r D r.kn)
  bl : ∀ o, r.live o → w.rowIs (D o) 143 (r.bks o * 2) (bRow (nv o) (sv o))
  nu : ∀ o b, r.live o → b < r.bks o → w.ownsRow 0 3 1 (nv o b) (r.nm o b).length (ints (r.nm o b))
  sy : ∀ o b, r.live o → b < r.bks o → w.ownsRow 0 5 1 (sv o b) (r.sm o b).length ((r.sm o b).map bv)
  kP : K P = .rcv
  ko : ∀ x, (Value.slice ao r.kn co).ownBlock = some x → K x = .objs
  kb : ∀ o, r.live o → K (D o) = .blks o
  kn : ∀ o b x, r.live o → b < r.bks o → (nv o b).ownBlock = some x → K x = .nums o b
  ks : ∀ o b x, r.live o → b < r.bks o → (sv o b).ownBlock = some x → K x = .syms o b
  kF : ∀ x, x < w.heap.size → K x ≠ .no → F x
  hi : ∀ o, r.kn ≤ o → r.ln o = 0
  tl : ∀ o, o < r.tk → r.ln o ≠ 0
def LRcvAt (w : World) (P : Nat) (r : Rt) (F : Nat → Prop) : Prop := ∃ K ao co D nv sv, LRI w P (LR.of r) F K ao co D nv sv
theorem owns_still {w w' : World} {base e size n : Nat} {v : Value} {xs : List Value} (h : w.ownsRow base e size v n xs) (hb : ∀ b, v.ownBlock = some b → w'.heap[b]? = w.heap[b]?) : w'.ownsRow base e size v n xs := by
  refine ⟨h.1, ?_⟩
  rcases h.2 with hn | ⟨g, cap, cur, e, hb', hg, rest⟩
  · exact .inl hn
  · refine .inr ⟨g, cap, cur, e, hb', ?_, rest⟩
    rw [hb g (by rw [e]; rfl)]
    exact hg
section
variable {w w' : World} {P : Nat} {r : LR} {F G : Nat → Prop} {K : Nat → Slot} {ao : Option Addr} {co : Nat} {D : Nat → Nat} {nv sv : Nat → Nat → Value}
theorem LRI.mono (h : LRI w P r F K ao co D nv sv) (hF : ∀ b, F b → b < w.heap.size → G b) : LRI w P r G K ao co D nv sv :=
  ⟨h.row, h.ob, h.bl, h.nu, h.sy, h.kP, h.ko, h.kb, h.kn, h.ks, fun x h1 h2 => hF x (h.kF x h1 h2) h1, h.hi, h.tl⟩
/-- nothing of it has turned -/
theorem LRI.same (h : LRI w P r F K ao co D nv sv) (hs : ∀ x, x < w.heap.size → K x ≠ .no → w'.heap[x]? = w.heap[x]?) (hz : w.heap.size ≤ w'.heap.size) : LRI w' P r F (painted K .no w.heap.size) ao co D nv sv := by
  have o1 : ∀ x, (Value.slice ao r.kn co).ownBlock = some x → x < w.heap.size := fun x hx => (h.ob.lt x hx).2
  have n1 : ∀ o b x, r.live o → b < r.bks o → (nv o b).ownBlock = some x → x < w.heap.size := fun o b x h1 h2 hx => ((h.nu o b h1 h2).lt x hx).2
  have s1 : ∀ o b x, r.live o → b < r.bks o → (sv o b).ownBlock = some x → x < w.heap.size := fun o b x h1 h2 hx => ((h.sy o b h1 h2).lt x hx).2
  refine ⟨h.row.of_block (hs _ h.row.lt (by rw [h.kP]; simp)), owns_still h.ob (fun b hb => hs b (o1 b hb) (by rw [h.ko b hb]; simp)), fun o ho => (h.bl o ho).of_block (hs _ (h.bl o ho).lt (by rw [h.kb o ho]; simp)),
    fun o b h1 h2 => owns_still (h.nu o b h1 h2) (fun x hx => hs x (n1 o b x h1 h2 hx) (by rw [h.kn o b x h1 h2 hx]; simp)),
    fun o b h1 h2 => owns_still (h.sy o b h1 h2) (fun x hx => hs x (s1 o b x h1 h2 hx) (by rw [h.ks o b x h1 h2 hx]; simp)),
    by rw [painted_old h.row.lt, h.kP], fun x hx => by rw [painted_old (o1 x hx), h.ko x hx], fun o ho => by rw [painted_old (h.bl o ho).lt, h.kb o ho],
    fun o b x h1 h2 hx => by rw [painted_old (n1 o b x h1 h2 hx), h.kn o b x h1 h2 hx], fun o b x h1 h2 hx => by rw [painted_old (s1 o b x h1 h2 hx), h.ks o b x h1 h2 hx],
    fun x hx hk => ?_, h.hi, h.tl⟩
  by_cases e : w.heap.size ≤ x
  · rw [painted_new e] at hk; exact absurd rfl hk
  · rw [painted_old (by omega)] at hk; exact h.kF x (by omega) hk
theorem LRI.below (h : LRI w P r F K ao co D nv sv) (hb : Below w.heap.size w w') : LRI w' P r F (painted K .no w.heap.size) ao co D nv sv := h.same (fun x hx _ => hb.block x hx) hb.size
theorem LRI.drew (h : LRI w P r F K ao co D nv sv) : LRI w.drew P r F K ao co D nv sv := ⟨h.row, h.ob, h.bl, h.nu, h.sy, h.kP, h.ko, h.kb, h.kn, h.ks, h.kF, h.hi, h.tl⟩
theorem LRI.cells (h : LRI w P r F K ao co D nv sv) : w.cell? ⟨P, 0, none⟩ = some (.int .i64 r.n.size) ∧ w.cell? ⟨P, 1, none⟩ = some (.int .i64 r.n.block) ∧ w.cell? ⟨P, 2, none⟩ = some (.int .i64 r.n.spare) ∧ w.cell? ⟨P, 3, none⟩ = some (.slice ao r.kn co) ∧ w.cell? ⟨P, 4, none⟩ = some (.int .i64 r.tk) :=
  ⟨h.row.cell (by decide), h.row.cell (by decide), h.row.cell (by decide), h.row.cell (by decide), h.row.cell (by decide)⟩
theorem LRI.slot (h : LRI w P r F K ao co D nv sv) {o : Nat} (ho : o < r.kn) :
    ∃ g, ao = some ⟨g, 0, none⟩ ∧ g < w.heap.size ∧ K g = .objs ∧ w.cell? ⟨g, o * 2, none⟩ = some (.int .i64 (r.ln o)) ∧ w.cell? ⟨g, o * 2 + 1, none⟩ = some (gval r D o) ∧ (∀ j, w.frozen? ⟨g, j, none⟩ = false) := by
  rcases h.ob.2 with ⟨_, e⟩ | ⟨g, cap, cur, e, _⟩
  · omega
  · simp only [Value.slice.injEq] at e
    obtain ⟨rfl, _, rfl⟩ := e
    have hc := h.ob.cells (g := g) rfl
    refine ⟨g, rfl, (h.ob.lt g rfl).2, h.ko g rfl, ?_, ?_, fun j => World.ownsRow.frozenAt h.ob j⟩
    · have := hc (o * 2) _ (gcells_get r D r.kn (o * 2) (by omega))
      rw [add_eq0] at this
      rw [this]; unfold gcell; rw [if_pos (by omega), show o * 2 / 2 = o from by omega]
    · have := hc (o * 2 + 1) _ (gcells_get r D r.kn (o * 2 + 1) (by omega))
      rw [add_eq0] at this
      rw [this]; unfold gcell; rw [if_neg (by omega), show (o * 2 + 1) / 2 = o from by omega]
end
theorem LRcvAt.stay {w w' : World} {P : Nat} {r : Rt} {F F' G : Nat → Prop} (h : LRcvAt w P r F) (t : Touch w w' G) (hd : ∀ b, F b → ¬ G b) (hF : ∀ b, F b → b < w.heap.size → F' b) : LRcvAt w' P r F' := by
  obtain ⟨K, ao, co, D, nv, sv, h⟩ := h
  have h2 := (h.mono (G := fun b => F b ∧ F' b) (fun b hb hl => ⟨hb, hF b hb hl⟩)).same (w' := w') (fun x hx hk => t.block x hx (hd _ (h.kF x hx hk))) t.size
  exact ⟨_, ao, co, D, nv, sv, h2.mono (fun b hb _ => hb.2)⟩
theorem LRcvAt.mono {w : World} {P : Nat} {r : Rt} {F F' : Nat → Prop} (h : LRcvAt w P r F) (hF : ∀ b, F b → b < w.heap.size → F' b) : LRcvAt w P r F' := h.stay (Touch.refl w (fun _ => False)) (fun _ _ h => h) hF
theorem LRcvAt.below {w w' : World} {P : Nat} {r : Rt} {F : Nat → Prop} (h : LRcvAt w P r F) (hb : Below w.heap.size w w') : LRcvAt w' P r (grow F w w') := by
  obtain ⟨K, ao, co, D, nv, sv, h⟩ := h
  exact ⟨_, ao, co, D, nv, sv, (h.below hb).mono (fun b hb _ => .inl hb)⟩
theorem vRow_new {w : World} {b : Nat} (hb : b = w.heap.size) (n : Nm) (vo : Value) (tk : Nat) :
    (w.alloc (.cells #[.int .i64 n.size, .int .i64 n.block, .int .i64 n.spare, vo, .int .i64 tk] 62)).rowIs b 62 5 (vRow n vo tk) := by
  subst hb
  exact World.rowIs_alloc w _ _ _ (fun i hi => by
    match i, hi with
    | 0, _ => rfl
    | 1, _ => rfl
    | 2, _ => rfl
    | 3, _ => rfl
    | 4, _ => rfl)
abbrev rAgg (a b c : Int) : Value := .agg #[.int .i64 a, .int .i64 b, .int .i64 c, .slice none 0 0, .int .i64 0]

set_option maxHeartbeats 1000000 in
theorem lanNewR0 (a b c : Int) (w : World) :
    Calls Tryz.prog 16 #[.int .i64 a, .int .i64 b, .int .i64 c] w fun e w' => e = .returned (.tuple #[if rightE a b c = 0 then rAgg a b c else rAgg 0 0 0, .int .i64 (rightE a b c)]) ∧ Below w.heap.size w w' := by
  have HN := fun W => layNew_any a b c W
  obtain ⟨E, hE⟩ : ∃ E, E = rightE a b c := ⟨_, rfl⟩
  rw [← hE] at HN ⊢
  clear hE
  obtain ⟨x, y, z, h1, h2⟩ : ∃ x y z : Int, (if E = 0 then nV a b c else nV 0 0 0) = nV x y z ∧ (if E = 0 then rAgg a b c else rAgg 0 0 0) = rAgg x y z := by
    by_cases h : E = 0
    · exact ⟨a, b, c, by rw [if_pos h], by rw [if_pos h]⟩
    · exact ⟨0, 0, 0, by rw [if_neg h], by rw [if_neg h]⟩
  rw [h1] at HN
  rw [h2]
  clear h1 h2
  have R0 := World.rowIs_alloc w #[.int .i64 0, .int .i64 0, .int .i64 0, .slice none 0 0, .int .i64 0] 58 (fun j => ([.int .i64 0, .int .i64 0, .int .i64 0, .slice none 0 0, .int .i64 0] : List Value).getD j undef) (fun i hi => by
    match i, hi with
    | 0, _ => rfl
    | 1, _ => rfl
    | 2, _ => rfl
    | 3, _ => rfl
    | 4, _ => rfl)
  have B0 : Below w.heap.size w (w.alloc (.cells #[.int .i64 0, .int .i64 0, .int .i64 0, .slice none 0 0, .int .i64 0] 58)) := (Below.refl _ _).alloc (Nat.le_refl _) _
  go_enter Tryz.func16, Tryz.ntmps16
  go_wp2_with fail
  refine (HN _).mono ?_
  rintro e w1 ⟨rfl, hb1⟩
  have R1 := R0.of_block (hb1.block _ R0.lt)
  have B1 := B0.trans (hb1.mono (by simp))
  have f0 := R1.frozen 0
  have f1 := R1.frozen 1
  have f2 := R1.frozen 2
  have f3 := R1.frozen 3
  have f4 := R1.frozen 4
  have x0 := R1.cell (i := 0) (by decide)
  have x1 := R1.cell (i := 1) (by decide)
  have x2 := R1.cell (i := 2) (by decide)
  have x3 := R1.cell (i := 3) (by decide)
  have x4 := R1.cell (i := 4) (by decide)
  simp only [List.getD_cons_zero, List.getD_cons_succ] at x0 x1 x2 x3 x4
  have z1 : w.heap.size < w1.heap.size := R1.lt
  clear R0 R1 hb1 HN B0
  obtain ⟨N, hN⟩ : ∃ N, N = w.heap.size := ⟨_, rfl⟩
  have HN : Hid (N = w.heap.size) := hN
  have HB : Hid (∀ v0 v1 v2 v3 v4 o, Below w.heap.size w ((((((w1.setCell ⟨N, 0, none⟩ v0).setCell ⟨N, 1, none⟩ v1).setCell ⟨N, 2, none⟩ v2).setCell ⟨N, 3, none⟩ v3).setCell ⟨N, 4, none⟩ v4).alloc o)) := by
    intro v0 v1 v2 v3 v4 o
    have hle : w.heap.size ≤ N := by rw [hN]; exact Nat.le_refl _
    exact (((((B1.setCell hle _).setCell hle _).setCell hle _).setCell hle _).setCell hle _).alloc (by simp; omega) _
  rw [← hN] at x0 x1 x2 x3 x4 f0 f1 f2 f3 f4 z1 ⊢
  clear hN B1
  go_wp2
  refine bodyPost_ret (v := .tuple #[rAgg x y z, .int .i64 E]) (by simp [results, Tryz.results16, go_sem, x0, x1, x2, x3, x4, z1]) rfl ?_
  exact ⟨rfl, by rw [HN.out] at HB ⊢; exact HB.out _ _ _ _ _ _⟩
def LNewOutR (a b c : Int) (e : Ending) (w w' : World) : Prop :=
  (rightE a b c ≠ 0 ∧ e = .returned (.tuple #[.pointer none, .int .i64 (rightE a b c)])) ∨
  (∃ (n : Nm) (P : Nat), n.ok ∧ a = n.size ∧ b = n.block ∧ c = n.spare ∧ e = .returned (.tuple #[.pointer (some ⟨P, 0, none⟩), .int .i64 0]) ∧ LRcvAt w' P (Rt.fresh n) (fun x => w.heap.size ≤ x ∧ x < w'.heap.size))
theorem LRI.fresh {w : World} {P : Nat} {F : Nat → Prop} {n : Nm} (h : w.rowIs P 62 5 (vRow n (.slice none 0 0) 0)) (hF : F P) : LRcvAt w P (Rt.fresh n) F := by
  have dead : ∀ o, ¬ (LR.of (Rt.fresh n)).live o := fun o ho => absurd ho.1 (Nat.not_lt_zero _)
  refine ⟨fun x => if x = P then .rcv else .no, none, 0, fun _ => 0, fun _ _ => undef, fun _ _ => undef, ?_⟩
  exact ⟨h, World.ownsRow_nil _ _ _ _, fun o ho => absurd ho (dead o), fun o b ho => absurd ho (dead o), fun o b ho => absurd ho (dead o), if_pos rfl, fun x hx => by simp [Value.ownBlock] at hx, fun o ho => absurd ho (dead o), fun o b x ho => absurd ho (dead o), fun o b x ho => absurd ho (dead o), fun x hx hk => by
    by_cases e : x = P
    · rw [e]; exact hF
    · rw [if_neg e] at hk; exact absurd rfl hk, fun o _ => rfl, fun o ho => absurd ho (Nat.not_lt_zero _)⟩
set_option maxHeartbeats 1000000 in
theorem lanNewReceiver (a b c : Int) (w : World) :
    Calls Tryz.prog 9 #[.int .i64 a, .int .i64 b, .int .i64 c] w fun e w' => LNewOutR a b c e w w' ∧ Below w.heap.size w w' := by
  have HN := fun W => lanNewR0 a b c W
  obtain ⟨E, hE⟩ : ∃ E, E = rightE a b c := ⟨_, rfl⟩
  have HE : Hid (E = rightE a b c) := hE
  rw [← hE] at HN
  clear hE
  by_cases h0 : E = 0
  · subst h0
    obtain ⟨n, hn, rfl, rfl, rfl⟩ := rightE_zero a b c HE.out.symm
    simp only [if_true] at HN
    go_enter Tryz.func9, Tryz.ntmps9
    go_wp2_with fail
    refine (HN _).mono ?_
    rintro e w1 ⟨rfl, hb1⟩
    have z1 := hb1.size
    clear HN
    go_wp2
    go_ret2
    refine ⟨.inr ⟨n, w1.heap.size + 1, hn, rfl, rfl, rfl, rfl, ?_⟩, (hb1.alloc z1 _).alloc (by simp; omega) _⟩
    exact LRI.fresh (vRow_new (by simp) n _ 0) ⟨by omega, by simp⟩
  · have t : (E != 0) = true := by simp [h0]
    rw [if_neg h0] at HN
    clear h0
    go_enter Tryz.func9, Tryz.ntmps9
    go_wp2_with fail
    refine (HN _).mono ?_
    rintro e w1 ⟨rfl, hb1⟩
    clear HN
    go_wp2
    go_ret2
    refine ⟨.inl ⟨by rw [← HE.out]; simpa using t, by rw [← HE.out]; rfl⟩, hb1.alloc hb1.size _⟩
end Sn
end Go.Proofs.YtkgnmcekeeannaaGreat
/-
  What a receiver keeps when it hears data, in plain words.
-/
namespace Go.Proofs.YtkgnmcekeeannaaGreat
namespace Sn
open Ms (M It)
set_option linter.unusedVariables false

theorem lenIn_app (l : List M) (m : M) (o : Int) (hl : ∀ x ∈ l, 1 ≤ x.len) : lenIn (l ++ [m]) o = if lenIn l o = 0 then (if m.obj = o then m.len else 0) else lenIn l o := by
  induction l with
  | nil => simp [lenIn]
  | cons x l ih =>
    have hx := hl x (by simp)
    have i1 := ih (fun y hy => hl y (by simp [hy]))
    by_cases e : x.obj = o
    · have e1 : ∀ t, lenIn (x :: t) o = x.len := fun t => by unfold lenIn; rw [if_pos e]
      rw [List.cons_append, e1, e1, if_neg (by omega)]
    · have e1 : ∀ t, lenIn (x :: t) o = lenIn t o := fun t => by
        conv => lhs; unfold lenIn
        rw [if_neg e]
      rw [List.cons_append, e1, e1]
      exact i1
theorem lenIn_none (l : List M) (o : Int) (hl : ∀ x ∈ l, 1 ≤ x.len) (h : lenIn l o = 0) : ∀ x ∈ l, x.obj ≠ o := by
  induction l with
  | nil => intro x hx; cases hx
  | cons y l ih =>
    have hy := hl y (by simp)
    unfold lenIn at h
    by_cases e : y.obj = o
    · rw [if_pos e] at h; omega
    · rw [if_neg e] at h
      intro x hx
      rcases List.mem_cons.1 hx with rfl | hx
      · exact e
      · exact ih (fun z hz => hl z (by simp [hz])) h x hx
theorem comeIn_other (o b : Int) (k : Nat) : ∀ (l acc : List M), (∀ x ∈ l, ¬ (x.obj = o ∧ x.blk = b)) → comeIn o b k acc l = acc
  | [], _, _ => rfl
  | m :: l, acc, h => by
    unfold comeIn
    split
    · rfl
    · have hm := h m (by simp)
      have : fresh1 o b acc m = false := by
        unfold fresh1
        by_cases e1 : m.obj = o
        · by_cases e2 : m.blk = b
          · exact absurd ⟨e1, e2⟩ hm
          · simp [e2]
        · simp [e1]
      rw [this]
      simp only [Bool.false_eq_true, if_false]
      exact comeIn_other o b k l acc (fun x hx => h x (by simp [hx]))
theorem comeIn_app (o b : Int) (k : Nat) (m : M) : ∀ (l acc : List M), comeIn o b k acc (l ++ [m]) = if (comeIn o b k acc l).length < k ∧ fresh1 o b (comeIn o b k acc l) m = true then comeIn o b k acc l ++ [m] else comeIn o b k acc l
  | [], acc => by
    have e0 : comeIn o b k acc [] = acc := rfl
    have e1 : comeIn o b k acc ([] ++ [m]) = if k ≤ acc.length then acc else if fresh1 o b acc m then acc ++ [m] else acc := rfl
    rw [e0, e1]
    by_cases h : k ≤ acc.length
    · rw [if_pos h, if_neg (by omega)]
    · rw [if_neg h]
      by_cases g : fresh1 o b acc m = true
      · rw [if_pos g, if_pos ⟨by omega, g⟩]
      · rw [if_neg g, if_neg (fun h => g h.2)]
  | x :: l, acc => by
    simp only [List.cons_append]
    by_cases h : k ≤ acc.length
    · have e1 : comeIn o b k acc (x :: (l ++ [m])) = acc := by unfold comeIn; rw [if_pos h]
      have e2 : comeIn o b k acc (x :: l) = acc := by unfold comeIn; rw [if_pos h]
      rw [e1, e2, if_neg (by omega)]
    · by_cases g : fresh1 o b acc x = true
      · have e1 : ∀ t, comeIn o b k acc (x :: t) = comeIn o b k (acc ++ [x]) t := fun t => by
          conv => lhs; unfold comeIn
          rw [if_neg h, if_pos g]
        rw [e1, e1]
        exact comeIn_app o b k m l (acc ++ [x])
      · have e1 : ∀ t, comeIn o b k acc (x :: t) = comeIn o b k acc t := fun t => by
          conv => lhs; unfold comeIn
          rw [if_neg h, if_neg g]
        rw [e1, e1]
        exact comeIn_app o b k m l acc
/-- a receiver that has taken data -/
def Rt.got (r : Rt) (m : M) : Rt := { r with heard := r.heard ++ [m], known := max r.known (m.obj.toNat + 1) }
section
variable {r : Rt} {m : M} {o b : Nat}
theorem heard_pos (hr : ROk r) : ∀ x ∈ r.heard, 1 ≤ x.len := fun x hx => by
  obtain ⟨_, hd, _⟩ := hr.hd x hx
  obtain ⟨_, _, _, _, _, _, q7, _⟩ := hd
  exact q7
theorem len_zero (hr : ROk r) (h : r.len o = 0) : lenIn r.heard o = 0 := by have := (hr.len o).1; omega
theorem come_zero (h : r.len o = 0) : r.come o b = [] := by
  unfold Rt.come
  have e : r.n.many (r.len o) b = 0 := by
    rw [h]
    unfold Nm.many Nm.all
    by_cases hz : r.n.size = 0
    · rw [hz]; simp
    · rw [Nat.div_eq_of_lt (by omega)]; omega
  rw [e]
  cases r.heard with
  | nil => rfl
  | cons x l => unfold comeIn; rw [if_pos (by simp)]
theorem got_len (hr : ROk r) (hm : 1 ≤ m.len) (hc : r.len m.obj.toNat = 0 ∨ (r.len m.obj.toNat : Int) = m.len) (ho : 0 ≤ m.obj) : (r.got m).len o = if (o : Int) = m.obj then m.len.toNat else r.len o := by
  have hp := heard_pos hr
  unfold Rt.len Rt.got
  simp only
  rw [lenIn_app _ _ _ hp]
  by_cases e : (o : Int) = m.obj
  · rw [if_pos e]
    obtain rfl : o = m.obj.toNat := by omega
    have h1 := (hr.len m.obj.toNat).1
    by_cases h0 : lenIn r.heard (m.obj.toNat : Int) = 0
    · rw [if_pos h0, if_pos (by omega)]
    · rw [if_neg h0]
      rcases hc with h | h
      · omega
      · omega
  · rw [if_neg e]
    by_cases h0 : lenIn r.heard (o : Int) = 0
    · rw [if_pos h0, if_neg (fun h => e h.symm), h0]
    · rw [if_neg h0]
theorem got_come (hr : ROk r) (hm : 1 ≤ m.len) (hc : r.len m.obj.toNat = 0 ∨ (r.len m.obj.toNat : Int) = m.len) (ho : 0 ≤ m.obj) (hb : 0 ≤ m.blk) :
    (r.got m).come o b = if ((o : Int) = m.obj ∧ (b : Int) = m.blk) ∧ (r.come o b).length < r.n.many m.len.toNat b ∧ (∀ x ∈ r.come o b, x.num ≠ m.num) then r.come o b ++ [m] else r.come o b := by
  have hp := heard_pos hr
  have hl := got_len (o := o) hr hm hc ho
  have e0 : (r.got m).come o b = comeIn o b (r.n.many ((r.got m).len o) b) [] (r.heard ++ [m]) := rfl
  rw [e0, hl]
  by_cases e : (o : Int) = m.obj
  · rw [if_pos e]
    obtain rfl : o = m.obj.toNat := by omega
    have ec : comeIn (m.obj.toNat : Int) b (r.n.many m.len.toNat b) [] r.heard = r.come m.obj.toNat b := by
      rcases hc with h | h
      · rw [come_zero h]
        have hn := lenIn_none _ _ hp (len_zero hr h)
        exact comeIn_other _ _ _ _ _ (fun x hx hxx => hn x hx hxx.1)
      · unfold Rt.come; rw [show m.len.toNat = r.len m.obj.toNat from by omega]
    rw [comeIn_app, ec]
    by_cases eb : (b : Int) = m.blk
    · by_cases hk : (r.come m.obj.toNat b).length < r.n.many m.len.toNat b
      · by_cases hf : ∀ x ∈ r.come m.obj.toNat b, x.num ≠ m.num
        · rw [if_pos ⟨hk, (by simp only [fresh1, Bool.and_eq_true, decide_eq_true_eq, List.all_eq_true]; exact ⟨⟨e.symm, eb.symm⟩, hf⟩)⟩, if_pos ⟨⟨e, eb⟩, hk, hf⟩]
        · rw [if_neg (fun h => hf (by have := h.2; simp [fresh1] at this; exact this.2)), if_neg (fun h => hf h.2.2)]
      · rw [if_neg (fun h => hk h.1), if_neg (fun h => hk h.2.1)]
    · rw [if_neg (fun h => eb (by have := h.2; simp [fresh1] at this; exact this.1.2.symm)), if_neg (fun h => eb h.1.2)]
  · rw [if_neg e, if_neg (fun h => e h.1.1), comeIn_app]
    rw [if_neg (fun h => e (by have := h.2; simp [fresh1] at this; exact this.1.1.symm))]
    rfl
end
end Sn
end Go.Proofs.YtkgnmcekeeannaaGreat
