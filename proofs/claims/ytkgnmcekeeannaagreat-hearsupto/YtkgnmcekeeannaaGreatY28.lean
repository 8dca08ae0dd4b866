import Derived.Test.YtkgnmcekeeannaaGreatY27
import Derived.Test.YtkgnmcekeeannaaGreatY06
/-
  Four senders and the law's own memory, side by side.
-/
namespace Go.Proofs.YtkgnmcekeeannaaGreat
open Go.RowKit Go.Deep
namespace Sn
open Bs
open Ms (owns_setCell)
set_option linter.unusedVariables false

theorem owns_same {w w' : World} {base e size n : Nat} {v : Value} {xs : List Value} (h : w.ownsRow base e size v n xs) (hb : ∀ b, v.ownBlock = some b → w'.heap[b]? = w.heap[b]?) : w'.ownsRow base e size v n xs := by
  refine ⟨h.1, ?_⟩
  rcases h.2 with hn | ⟨g, cap, cur, e, hb', hg, rest⟩
  · exact .inl hn
  · refine .inr ⟨g, cap, cur, e, hb', ?_, rest⟩
    rw [hb g (by rw [e]; rfl)]
    exact hg
theorem LndAt.stay {w w' : World} {P : Nat} {s : LS} {F F' G : Nat → Prop} (h : LndAt w P s F) (t : Touch w w' G) (hd : ∀ b, F b → ¬ G b) (hF : ∀ b, F b → b < w.heap.size → F' b) : LndAt w' P s F' := by
  obtain ⟨ao, co, D, h⟩ := h
  refine ⟨ao, co, D, ?_⟩
  exact ⟨h.row.of_block (t.block _ h.row.lt (hd _ h.fP)), owns_same h.ob (fun b hb => t.block b (h.ob.lt b hb).2 (hd _ (h.fo b hb))), fun i hi => (h.db i hi).of_block (t.block _ (h.db i hi).lt (hd _ (h.fd i hi))),
    hF _ h.fP h.row.lt, fun b hb => hF _ (h.fo b hb) (h.ob.lt b hb).2, fun i hi => hF _ (h.fd i hi) (h.db i hi).lt, h.op, h.dp, h.od, h.dd⟩
theorem SndAt.stay {w w' : World} {P : Nat} {s : St} {F F' G : Nat → Prop} (h : SndAt w P s F) (t : Touch w w' G) (hd : ∀ b, F b → ¬ G b) (hF : ∀ b, F b → b < w.heap.size → F' b) : SndAt w' P s F' := by
  obtain ⟨ao, co, ad, cd, h⟩ := h
  have fo : ∀ b, (Value.slice ao s.objs.length co).ownBlock = some b → F b := fun b hb => (h.fo b hb).elim id (fun e => absurd (h.ob.lt b hb).2 (by omega))
  have fd : ∀ b, (Value.slice ad s.debts.length cd).ownBlock = some b → F b := fun b hb => (h.fd b hb).elim id (fun e => absurd (h.db.lt b hb).2 (by omega))
  refine ⟨ao, co, ad, cd, ?_⟩
  exact ⟨h.row.of_block (t.block _ h.row.lt (hd _ h.fP)), owns_same h.ob (fun b hb => t.block b (h.ob.lt b hb).2 (hd _ (fo b hb))), owns_same h.db (fun b hb => t.block b (h.db.lt b hb).2 (hd _ (fd b hb))),
    hF _ h.fP h.row.lt, h.op, h.dp, h.od, fun b hb => .inl (hF _ (fo b hb) (h.ob.lt b hb).2), fun b hb => .inl (hF _ (fd b hb) (h.db.lt b hb).2), Touch.refl _ _⟩
theorem LndAt.mono {w : World} {P : Nat} {s : LS} {F F' : Nat → Prop} (h : LndAt w P s F) (hF : ∀ b, F b → b < w.heap.size → F' b) : LndAt w P s F' := h.stay (Touch.refl w (fun _ => False)) (fun _ _ h => h) hF
theorem SndAt.mono {w : World} {P : Nat} {s : St} {F F' : Nat → Prop} (h : SndAt w P s F) (hF : ∀ b, F b → b < w.heap.size → F' b) : SndAt w P s F' := h.stay (Touch.refl w (fun _ => False)) (fun _ _ h => h) hF

/-! ### the law's own memory -/
theorem infoPL : (Tryz.prog.info? 49).map (fun i => (i.zero, i.size, i.bytes)) = some (some (.pointer none), 1, 8) := by kernel_rfl
theorem infoPR : (Tryz.prog.info? 52).map (fun i => (i.zero, i.size, i.bytes)) = some (some (.pointer none), 1, 8) := by kernel_rfl
def ptrs (l : List (Option Nat)) : List Value := l.map (fun p => Value.pointer (p.map (fun b => ⟨b, 0, none⟩)))
def wRow (va vb vc : Value) (j : Nat) : Value := ([va, vb, .slice none 0 0, .slice none 0 0, vc, .slice none 0 0] : List Value).getD j undef
structure WM (w : World) (Q : Nat) (G : Nat → Prop) (va vb vc : Value) (ps qs : List (Option Nat)) (on : List ByteArray) : Prop where
  row : w.rowIs Q 47 6 (wRow va vb vc)
  a : w.ownsRow 0 49 1 va ps.length (ptrs ps)
  b : w.ownsRow 0 52 1 vb qs.length (ptrs qs)
  c : w.ownsRow 0 9 1 vc on.length (strs on)
  gq : G Q
  ga : ∀ x, va.ownBlock = some x → G x
  gb : ∀ x, vb.ownBlock = some x → G x
  gc : ∀ x, vc.ownBlock = some x → G x
  aq : va.ownBlock ≠ some Q
  bq : vb.ownBlock ≠ some Q
  cq : vc.ownBlock ≠ some Q
  ab : ∀ x, va.ownBlock = some x → vb.ownBlock ≠ some x
  ac : ∀ x, va.ownBlock = some x → vc.ownBlock ≠ some x
  bc : ∀ x, vb.ownBlock = some x → vc.ownBlock ≠ some x
theorem WM.stay {w w' : World} {Q : Nat} {G G' H : Nat → Prop} {va vb vc : Value} {ps qs : List (Option Nat)} {on : List ByteArray} (h : WM w Q G va vb vc ps qs on) (t : Touch w w' H) (hd : ∀ b, G b → ¬ H b) (hG : ∀ b, G b → b < w.heap.size → G' b) : WM w' Q G' va vb vc ps qs on :=
  ⟨h.row.of_block (t.block _ h.row.lt (hd _ h.gq)), owns_same h.a (fun b hb => t.block b (h.a.lt b hb).2 (hd _ (h.ga b hb))), owns_same h.b (fun b hb => t.block b (h.b.lt b hb).2 (hd _ (h.gb b hb))), owns_same h.c (fun b hb => t.block b (h.c.lt b hb).2 (hd _ (h.gc b hb))),
    hG _ h.gq h.row.lt, fun x hx => hG _ (h.ga x hx) (h.a.lt x hx).2, fun x hx => hG _ (h.gb x hx) (h.b.lt x hx).2, fun x hx => hG _ (h.gc x hx) (h.c.lt x hx).2, h.aq, h.bq, h.cq, h.ab, h.ac, h.bc⟩
theorem WM.drew {w : World} {Q : Nat} {G : Nat → Prop} {va vb vc : Value} {ps qs : List (Option Nat)} {on : List ByteArray} (h : WM w Q G va vb vc ps qs on) : WM w.drew Q G va vb vc ps qs on :=
  ⟨h.row, h.a, h.b, h.c, h.gq, h.ga, h.gb, h.gc, h.aq, h.bq, h.cq, h.ab, h.ac, h.bc⟩
theorem new_ne {w w1 : World} {v v' : Value} {o : Obj} (hat : v'.ownBlock = v.ownBlock ∨ v'.ownBlock = some (w.alloc o).heap.size) {x : Nat} (hx : x < w.heap.size) (hne : v.ownBlock ≠ some x) : v'.ownBlock ≠ some x := fun e => by
  rcases hat with h | h
  · rw [h] at e; exact hne e
  · rw [h] at e; simp at e; omega
theorem grown_block {w w1 : World} {v : Value} {o : Obj} (hg : (w.alloc o).grownBy w1 v.ownBlock) {x : Nat} (hx : x < w.heap.size) (hne : v.ownBlock ≠ some x) : w1.heap[x]? = w.heap[x]? :=
  (hg.block x (by simp; omega) (fun e => hne e.symm)).trans (Below.heap_alloc w _ x hx)
theorem touch_append {w w1 : World} {v y : Value} {o : Obj} {G : Nat → Prop} {Q j : Nat} (hg : (w.alloc o).grownBy w1 v.ownBlock) (hv : ∀ x, v.ownBlock = some x → G x) (hQ : G Q) : Touch w (w1.setCell ⟨Q, j, none⟩ y) G := by
  have hs := hg.size
  refine ⟨hg.os, hg.tape, hg.output, by simp at hs ⊢; omega, fun x hx hG => ?_⟩
  rw [heap_setCell_other _ _ _ _ (fun e => hG (by rw [e]; exact hQ))]
  exact grown_block hg hx (fun e => hG (hv x e))
theorem WM.more_a {w w1 : World} {Q : Nat} {G G' : Nat → Prop} {va vb vc va' : Value} {ps qs : List (Option Nat)} {on : List ByteArray} {x : Option Nat} {o : Obj} (h : WM w Q G va vb vc ps qs on)
    (hown : w1.ownsRow 0 49 1 va' (ps.length + 1) (ptrs ps ++ [.pointer (x.map (fun b => ⟨b, 0, none⟩))])) (hg : (w.alloc o).grownBy w1 va.ownBlock) (hat : va'.ownBlock = va.ownBlock ∨ va'.ownBlock = some (w.alloc o).heap.size)
    (hG : ∀ b, G b → G' b) (hn : ∀ b, w.heap.size ≤ b → b < w1.heap.size → G' b) : WM (w1.setCell ⟨Q, 0, none⟩ va') Q G' va' vb vc (ps ++ [x]) qs on := by
  have hl : (ps ++ [x]).length = ps.length + 1 := by simp
  have hx : ptrs (ps ++ [x]) = ptrs ps ++ [.pointer (x.map (fun b => ⟨b, 0, none⟩))] := by simp [ptrs]
  exact ⟨((h.row.of_block (grown_block hg h.row.lt h.aq)).set 0 _).congr (fun j hj => by match j, hj with | 0, _ => rfl | 1, _ => rfl | 2, _ => rfl | 3, _ => rfl | 4, _ => rfl | 5, _ => rfl),
    by rw [hl, hx]; exact owns_setCell hown (new_ne (w1 := w1) hat h.row.lt h.aq),
    owns_setCell (owns_same h.b (fun b hb => grown_block hg (h.b.lt b hb).2 (fun e => h.ab b e hb))) h.bq,
    owns_setCell (owns_same h.c (fun b hb => grown_block hg (h.c.lt b hb).2 (fun e => h.ac b e hb))) h.cq,
    hG _ h.gq,
    fun b hb => by
      rcases hat with e | e
      · rw [e] at hb; exact hG _ (h.ga b hb)
      · have := (hown.lt b hb).2; rw [e] at hb; simp at hb; exact hn b (by omega) this,
    fun b hb => hG _ (h.gb b hb),
    fun b hb => hG _ (h.gc b hb),
    new_ne (w1 := w1) hat h.row.lt h.aq,
    h.bq,
    h.cq,
    fun b hb e => new_ne (w1 := w1) hat (h.b.lt b e).2 (fun e' => h.ab b e' e) hb,
    fun b hb e => new_ne (w1 := w1) hat (h.c.lt b e).2 (fun e' => h.ac b e' e) hb,
    h.bc⟩
theorem WM.more_b {w w1 : World} {Q : Nat} {G G' : Nat → Prop} {va vb vc vb' : Value} {ps qs : List (Option Nat)} {on : List ByteArray} {x : Option Nat} {o : Obj} (h : WM w Q G va vb vc ps qs on)
    (hown : w1.ownsRow 0 52 1 vb' (qs.length + 1) (ptrs qs ++ [.pointer (x.map (fun b => ⟨b, 0, none⟩))])) (hg : (w.alloc o).grownBy w1 vb.ownBlock) (hat : vb'.ownBlock = vb.ownBlock ∨ vb'.ownBlock = some (w.alloc o).heap.size)
    (hG : ∀ b, G b → G' b) (hn : ∀ b, w.heap.size ≤ b → b < w1.heap.size → G' b) : WM (w1.setCell ⟨Q, 1, none⟩ vb') Q G' va vb' vc ps (qs ++ [x]) on := by
  have hl : (qs ++ [x]).length = qs.length + 1 := by simp
  have hx : ptrs (qs ++ [x]) = ptrs qs ++ [.pointer (x.map (fun b => ⟨b, 0, none⟩))] := by simp [ptrs]
  exact ⟨((h.row.of_block (grown_block hg h.row.lt h.bq)).set 1 _).congr (fun j hj => by match j, hj with | 0, _ => rfl | 1, _ => rfl | 2, _ => rfl | 3, _ => rfl | 4, _ => rfl | 5, _ => rfl),
    owns_setCell (owns_same h.a (fun b hb => grown_block hg (h.a.lt b hb).2 (fun e => h.ab b hb e))) h.aq,
    by rw [hl, hx]; exact owns_setCell hown (new_ne (w1 := w1) hat h.row.lt h.bq),
    owns_setCell (owns_same h.c (fun b hb => grown_block hg (h.c.lt b hb).2 (fun e => h.bc b e hb))) h.cq,
    hG _ h.gq,
    fun b hb => hG _ (h.ga b hb),
    fun b hb => by
      rcases hat with e | e
      · rw [e] at hb; exact hG _ (h.gb b hb)
      · have := (hown.lt b hb).2; rw [e] at hb; simp at hb; exact hn b (by omega) this,
    fun b hb => hG _ (h.gc b hb),
    h.aq,
    new_ne (w1 := w1) hat h.row.lt h.bq,
    h.cq,
    fun b hb e => new_ne (w1 := w1) hat (h.a.lt b hb).2 (fun e' => h.ab b hb e') e,
    h.ac,
    fun b hb e => new_ne (w1 := w1) hat (h.c.lt b e).2 (fun e' => h.bc b e' e) hb⟩
theorem WM.more_c {w w1 : World} {Q : Nat} {G G' : Nat → Prop} {va vb vc vc' : Value} {ps qs : List (Option Nat)} {on : List ByteArray} {x : ByteArray} {o : Obj} (h : WM w Q G va vb vc ps qs on)
    (hown : w1.ownsRow 0 9 1 vc' (on.length + 1) (strs on ++ [.string x])) (hg : (w.alloc o).grownBy w1 vc.ownBlock) (hat : vc'.ownBlock = vc.ownBlock ∨ vc'.ownBlock = some (w.alloc o).heap.size)
    (hG : ∀ b, G b → G' b) (hn : ∀ b, w.heap.size ≤ b → b < w1.heap.size → G' b) : WM (w1.setCell ⟨Q, 4, none⟩ vc') Q G' va vb vc' ps qs (on ++ [x]) := by
  have hl : (on ++ [x]).length = on.length + 1 := by simp
  have hx : strs (on ++ [x]) = strs on ++ [.string x] := by simp [strs]
  exact ⟨((h.row.of_block (grown_block hg h.row.lt h.cq)).set 4 _).congr (fun j hj => by match j, hj with | 0, _ => rfl | 1, _ => rfl | 2, _ => rfl | 3, _ => rfl | 4, _ => rfl | 5, _ => rfl),
    owns_setCell (owns_same h.a (fun b hb => grown_block hg (h.a.lt b hb).2 (fun e => h.ac b hb e))) h.aq,
    owns_setCell (owns_same h.b (fun b hb => grown_block hg (h.b.lt b hb).2 (fun e => h.bc b hb e))) h.bq,
    by rw [hl, hx]; exact owns_setCell hown (new_ne (w1 := w1) hat h.row.lt h.cq),
    hG _ h.gq,
    fun b hb => hG _ (h.ga b hb),
    fun b hb => hG _ (h.gb b hb),
    fun b hb => by
      rcases hat with e | e
      · rw [e] at hb; exact hG _ (h.gc b hb)
      · have := (hown.lt b hb).2; rw [e] at hb; simp at hb; exact hn b (by omega) this,
    h.aq,
    h.bq,
    new_ne (w1 := w1) hat h.row.lt h.cq,
    h.ab,
    fun b hb e => new_ne (w1 := w1) hat (h.a.lt b hb).2 (fun e' => h.ac b hb e') e,
    fun b hb e => new_ne (w1 := w1) hat (h.b.lt b hb).2 (fun e' => h.bc b hb e') e⟩
end Sn
end Go.Proofs.YtkgnmcekeeannaaGreat
/-
  Which of n things a raw number speaks of, in the law's package.
-/
namespace Go.Proofs.YtkgnmcekeeannaaGreat
open Go.RowKit Go.Deep
namespace Sn
open Fld (ret_int val_int)

theorem lawPick (c : Int) (n : Nat) (w : World) (h1 : -9223372036854775808 ≤ c) (h2 : c ≤ 9223372036854775807) (hn : 1 ≤ n) (hn2 : n ≤ 4294967296) :
    Calls Tryz.prog 18 #[.int .i64 c, .int .i64 n] w fun e w' => (∃ r : Nat, r < n ∧ e = .returned (.int .i64 r)) ∧ w' = w := by
  have key : ∀ x : Int, 0 ≤ x → ∃ r : Nat, r < n ∧ x % (n : Int) = (r : Int) := fun x hx => by
    obtain ⟨m, rfl⟩ := Int.eq_ofNat_of_zero_le hx
    exact ⟨m % n, Nat.mod_lt _ hn, (Int.natCast_emod _ _).symm⟩
  by_cases h : c < 0
  · have h3 : 0 ≤ -(c + 1) := by omega
    obtain ⟨r, hr, he⟩ := key (-(c + 1)) h3
    have HE : Hid (-(c + 1) % (n : Int) = (r : Int)) := he
    clear key he
    go_enter Tryz.func18, Tryz.ntmps18
    go_wp2
    go_ret
    exact ⟨⟨r, hr, ret_int (by rw [← Int.neg_tmod, Int.tmod_eq_emod_of_nonneg h3]; exact HE.out)⟩, rfl⟩
  · have h3 : 0 ≤ c := by omega
    obtain ⟨r, hr, he⟩ := key c h3
    have HE : Hid (c % (n : Int) = (r : Int)) := he
    clear key he h
    go_enter Tryz.func18, Tryz.ntmps18
    go_wp2
    go_ret
    exact ⟨⟨r, hr, ret_int HE.out⟩, rfl⟩

end Sn
end Go.Proofs.YtkgnmcekeeannaaGreat
/-
  The memory of the law's game, painted: who owns which block.
-/
namespace Go.Proofs.YtkgnmcekeeannaaGreat
open Go.RowKit Go.Deep
namespace Sn
open Bs
set_option linter.unusedVariables false

theorem pickAll (c : Int) (n : Nat) (h1 : -9223372036854775808 ≤ c) (h2 : c ≤ 9223372036854775807) (hn : 1 ≤ n) (hn2 : n ≤ 4294967296) :
    ∃ r : Nat, r < n ∧ ∀ w, Calls Tryz.prog 18 #[.int .i64 c, .int .i64 n] w fun e w' => e = .returned (.int .i64 r) ∧ w' = w := by
  have key : ∀ x : Int, 0 ≤ x → ∃ r : Nat, r < n ∧ x % (n : Int) = (r : Int) := fun x hx => by
    obtain ⟨m, rfl⟩ := Int.eq_ofNat_of_zero_le hx
    exact ⟨m % n, Nat.mod_lt _ hn, (Int.natCast_emod _ _).symm⟩
  by_cases h : c < 0
  · have h3 : 0 ≤ -(c + 1) := by omega
    obtain ⟨r, hr, he⟩ := key (-(c + 1)) h3
    have HE : Hid (-(c + 1) % (n : Int) = (r : Int)) := he
    clear key he
    refine ⟨r, hr, fun w => ?_⟩
    go_enter Tryz.func18, Tryz.ntmps18
    go_wp2
    go_ret
    exact ⟨Fld.ret_int (by rw [← Int.neg_tmod, Int.tmod_eq_emod_of_nonneg h3]; exact HE.out), rfl⟩
  · have h3 : 0 ≤ c := by omega
    obtain ⟨r, hr, he⟩ := key c h3
    have HE : Hid (c % (n : Int) = (r : Int)) := he
    clear key he h
    refine ⟨r, hr, fun w => ?_⟩
    go_enter Tryz.func18, Tryz.ntmps18
    go_wp2
    go_ret
    exact ⟨Fld.ret_int HE.out, rfl⟩

/-- what is made from there on is painted so -/
def paint (C : Nat → Nat) (k n : Nat) : Nat → Nat := fun b => if n ≤ b then k else C b
theorem paint_old {C : Nat → Nat} {k n b : Nat} (h : b < n) : paint C k n b = C b := by unfold paint; rw [if_neg (by omega)]
theorem paint_new {C : Nat → Nat} {k n b : Nat} (h : n ≤ b) : paint C k n b = k := by unfold paint; rw [if_pos h]
theorem paint_grow {C : Nat → Nat} {k : Nat} {w w' : World} {b : Nat} (h : grow (fun b => C b = k) w w' b) : paint C k w.heap.size b = k := by
  by_cases e : w.heap.size ≤ b
  · exact paint_new e
  · rw [paint_old (by omega)]
    rcases h with h | h
    · exact h
    · omega
theorem below_touch {B k : Nat} {w0 w w1 : World} {C : Nat → Nat} (h : Below B w0 w) (low : ∀ b, b < B → C b = 0) (t : Touch w w1 (fun b => C b = k)) (hk : k ≠ 0) (hB : B ≤ w.heap.size) : Below B w0 w1 :=
  ⟨t.os.trans h.os, t.tape.trans h.tape, t.output.trans h.output, by have := h.size; have := t.size; omega, fun b hb => (t.block b (by omega) (fun e => hk (by rw [← e, low b hb]))).trans (h.block b hb)⟩

structure Cols (kl kr ml mr : Nat) : Prop where
  a : kl ≠ kr
  b : kl ≠ ml
  c : kl ≠ mr
  d : kl ≠ 5
  e : kr ≠ ml
  f : kr ≠ mr
  g : kr ≠ 5
  h : ml ≠ mr
  i : ml ≠ 5
  j : mr ≠ 5
  k : kl ≠ 0
  l : kr ≠ 0
  m : ml ≠ 0
  n : mr ≠ 0
structure Mem (B : Nat) (w0 w : World) (C : Nat → Nat) (Q : Nat) (va vb vc : Value) (ps qs : List (Option Nat)) (on : List ByteArray) (kl kr ml mr P R P' R' : Nat) (s s' : St) (l l' : LS) : Prop where
  col : Cols kl kr ml mr
  pl : LndAt w P l (fun b => C b = kl)
  pr : SndAt w R s (fun b => C b = kr)
  ql : LndAt w P' l' (fun b => C b = ml)
  qr : SndAt w R' s' (fun b => C b = mr)
  wm : WM w Q (fun b => C b = 5) va vb vc ps qs on
  bel : Below B w0 w
  low : ∀ b, b < B → C b = 0
  room : B ≤ w.heap.size
section
variable {B : Nat} {w0 w w1 : World} {C : Nat → Nat} {Q : Nat} {va vb vc : Value} {ps qs : List (Option Nat)} {on : List ByteArray} {kl kr ml mr P R P' R' : Nat} {s s' : St} {l l' : LS}
theorem keep_low (low : ∀ b, b < B → C b = 0) (hB : B ≤ w.heap.size) (k : Nat) : ∀ b, b < B → paint C k w.heap.size b = 0 := fun b hb => by rw [paint_old (by omega)]; exact low b hb
theorem stay_l {k j : Nat} (hjk : j ≠ k) (h : LndAt w P l (fun b => C b = j)) (t : Touch w w1 (fun b => C b = k)) : LndAt w1 P l (fun b => paint C k w.heap.size b = j) :=
  h.stay t (fun b h1 h2 => hjk (h1.symm.trans h2)) (fun b h1 h2 => by rw [paint_old h2]; exact h1)
theorem stay_r {k j : Nat} (hjk : j ≠ k) (h : SndAt w R s (fun b => C b = j)) (t : Touch w w1 (fun b => C b = k)) : SndAt w1 R s (fun b => paint C k w.heap.size b = j) :=
  h.stay t (fun b h1 h2 => hjk (h1.symm.trans h2)) (fun b h1 h2 => by rw [paint_old h2]; exact h1)
theorem stay_w {k j : Nat} (hjk : j ≠ k) (h : WM w Q (fun b => C b = j) va vb vc ps qs on) (t : Touch w w1 (fun b => C b = k)) : WM w1 Q (fun b => paint C k w.heap.size b = j) va vb vc ps qs on :=
  h.stay t (fun b h1 h2 => hjk (h1.symm.trans h2)) (fun b h1 h2 => by rw [paint_old h2]; exact h1)
theorem Mem.landed {l1 : LS} (h : Mem B w0 w C Q va vb vc ps qs on kl kr ml mr P R P' R' s s' l l') (t : Touch w w1 (fun b => C b = kl)) (hl : LndAt w1 P l1 (grow (fun b => C b = kl) w w1)) :
    Mem B w0 w1 (paint C kl w.heap.size) Q va vb vc ps qs on kl kr ml mr P R P' R' s s' l1 l' :=
  ⟨h.col, hl.mono (fun b hb _ => paint_grow hb), stay_r (fun e => h.col.a e.symm) h.pr t, stay_l (fun e => h.col.b e.symm) h.ql t, stay_r (fun e => h.col.c e.symm) h.qr t, stay_w (fun e => h.col.d e.symm) h.wm t, below_touch h.bel h.low t h.col.k h.room, keep_low h.low h.room kl, by have := h.room; have := t.size; omega⟩
theorem Mem.refd {s1 : St} (h : Mem B w0 w C Q va vb vc ps qs on kl kr ml mr P R P' R' s s' l l') (t : Touch w w1 (fun b => C b = kr)) (hl : SndAt w1 R s1 (grow (fun b => C b = kr) w w1)) :
    Mem B w0 w1 (paint C kr w.heap.size) Q va vb vc ps qs on kl kr ml mr P R P' R' s1 s' l l' :=
  ⟨h.col, stay_l h.col.a h.pl t, hl.mono (fun b hb _ => paint_grow hb), stay_l (fun e => h.col.e e.symm) h.ql t, stay_r (fun e => h.col.f e.symm) h.qr t, stay_w (fun e => h.col.g e.symm) h.wm t, below_touch h.bel h.low t h.col.l h.room, keep_low h.low h.room kr, by have := h.room; have := t.size; omega⟩
theorem Mem.above (h : Mem B w0 w C Q va vb vc ps qs on kl kr ml mr P R P' R' s s' l l') (hb : Below w.heap.size w w1) :
    Mem B w0 w1 (fun b => if w.heap.size ≤ b then 0 else C b) Q va vb vc ps qs on kl kr ml mr P R P' R' s s' l l' := by
  have t : ∀ F : Nat → Prop, Touch w w1 F := fun F => Touch.of_below hb
  have old : ∀ j b, C b = j → b < w.heap.size → (if w.heap.size ≤ b then 0 else C b) = j := fun j b h1 h2 => by rw [if_neg (by omega)]; exact h1
  exact ⟨h.col, h.pl.stay (t (fun _ => False)) (fun _ _ h => h) (old kl), h.pr.stay (t (fun _ => False)) (fun _ _ h => h) (old kr), h.ql.stay (t (fun _ => False)) (fun _ _ h => h) (old ml), h.qr.stay (t (fun _ => False)) (fun _ _ h => h) (old mr), h.wm.stay (t (fun _ => False)) (fun _ _ h => h) (old 5),
    h.bel.trans (hb.mono h.room), fun b hb' => by rw [if_neg (by have := h.room; omega)]; exact h.low b hb', by have := h.room; have := hb.size; omega⟩
theorem Mem.swap (h : Mem B w0 w C Q va vb vc ps qs on kl kr ml mr P R P' R' s s' l l') : Mem B w0 w C Q va vb vc ps qs on ml mr kl kr P' R' P R s' s l' l :=
  ⟨⟨h.col.h, fun e => h.col.b e.symm, fun e => h.col.e e.symm, h.col.i, fun e => h.col.c e.symm, fun e => h.col.f e.symm, h.col.j, h.col.a, h.col.d, h.col.g, h.col.m, h.col.n, h.col.k, h.col.l⟩, h.ql, h.qr, h.pl, h.pr, h.wm, h.bel, h.low, h.room⟩
theorem Mem.onto {o : Obj} {vc' : Value} {x : ByteArray} (h : Mem B w0 w C Q va vb vc ps qs on kl kr ml mr P R P' R' s s' l l') (hown : w1.ownsRow 0 9 1 vc' (on.length + 1) (strs on ++ [.string x])) (hg : (w.alloc o).grownBy w1 vc.ownBlock) (hat : vc'.ownBlock = vc.ownBlock ∨ vc'.ownBlock = some (w.alloc o).heap.size) :
    Mem B w0 (w1.setCell ⟨Q, 4, none⟩ vc') (paint C 5 w.heap.size) Q va vb vc' ps qs (on ++ [x]) kl kr ml mr P R P' R' s s' l l' := by
  have t : Touch w (w1.setCell ⟨Q, 4, none⟩ vc') (fun b => C b = 5) := touch_append hg h.wm.gc h.wm.gq
  have wm := WM.more_c (G' := fun b => paint C 5 w.heap.size b = 5) h.wm hown hg hat (fun b hb => by
    by_cases e : w.heap.size ≤ b
    · exact paint_new e
    · rw [paint_old (by omega)]; exact hb) (fun b hb _ => paint_new hb)
  exact ⟨h.col, stay_l h.col.d h.pl t, stay_r h.col.g h.pr t, stay_l h.col.i h.ql t, stay_r h.col.j h.qr t, wm, below_touch h.bel h.low t (by decide) h.room, keep_low h.low h.room 5, by have := h.room; have := t.size; omega⟩
end
end Sn
end Go.Proofs.YtkgnmcekeeannaaGreat
