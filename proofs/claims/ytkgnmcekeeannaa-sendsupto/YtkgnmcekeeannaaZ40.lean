import Derived.Test.YtkgnmcekeeannaaZ39
/-
  The memory of the law's game, painted: who owns which block.
-/
namespace Go.Proofs.Ytkgnmcekeeannaa
open Go.RowKit Go.Deep
namespace Sn
open Bs
set_option linter.unusedVariables false

theorem pickAll (c : Int) (n : Nat) (h1 : -9223372036854775808 ≤ c) (h2 : c ≤ 9223372036854775807) (hn : 1 ≤ n) (hn2 : n ≤ 4294967296) :
    ∃ r : Nat, r < n ∧ ∀ w, Calls Try.prog 54 #[.int .i64 c, .int .i64 n] w fun e w' => e = .returned (.int .i64 r) ∧ w' = w := by
  have key : ∀ x : Int, 0 ≤ x → ∃ r : Nat, r < n ∧ x % (n : Int) = (r : Int) := fun x hx => by
    obtain ⟨m, rfl⟩ := Int.eq_ofNat_of_zero_le hx
    exact ⟨m % n, Nat.mod_lt _ hn, (Int.natCast_emod _ _).symm⟩
  by_cases h : c < 0
  · have h3 : 0 ≤ -(c + 1) := by omega
    obtain ⟨r, hr, he⟩ := key (-(c + 1)) h3
    have HE : Hid (-(c + 1) % (n : Int) = (r : Int)) := he
    clear key he
    refine ⟨r, hr, fun w => ?_⟩
    go_enter Try.func54, Try.ntmps54
    go_wp2
    go_ret
    exact ⟨Fld.ret_int (by rw [← Int.neg_tmod, Int.tmod_eq_emod_of_nonneg h3]; exact HE.out), rfl⟩
  · have h3 : 0 ≤ c := by omega
    obtain ⟨r, hr, he⟩ := key c h3
    have HE : Hid (c % (n : Int) = (r : Int)) := he
    clear key he h
    refine ⟨r, hr, fun w => ?_⟩
    go_enter Try.func54, Try.ntmps54
    go_wp2
    go_ret
    exact ⟨Fld.ret_int HE.out, rfl⟩

/-- what is made from there on is painted so -/
def paint (C : Nat → Nat) (k n : Nat) : Nat → Nat := fun b => if n ≤ b then k else C b
theorem paint_old {C : Nat → Nat} {k n b : Nat} (h : b < n) : paint C k n b = C b := by unfold paint; rw [if_neg (by omega)]
theorem paint_new {C : Nat → Nat} {k n b : Nat} (h : n ≤ b) : paint C k n b = k := by unfold paint; rw [if_pos h]
theorem paint_grow {C : Nat → Nat} {k : Nat} {w w' : World} {b : Nat} (h : grow (fun b => C b = k) w w' b) : paint C k w.heap.size b = k := by
  by_cases e : w.heap.size ≤ b
  · exact paint_new e
  · rw [paint_old (by omega)]
    rcases h with h | h
    · exact h
    · omega
theorem below_touch {B k : Nat} {w0 w w1 : World} {C : Nat → Nat} (h : Below B w0 w) (low : ∀ b, b < B → C b = 0) (t : Touch w w1 (fun b => C b = k)) (hk : k ≠ 0) (hB : B ≤ w.heap.size) : Below B w0 w1 :=
  ⟨t.os.trans h.os, t.tape.trans h.tape, t.output.trans h.output, by have := h.size; have := t.size; omega, fun b hb => (t.block b (by omega) (fun e => hk (by rw [← e, low b hb]))).trans (h.block b hb)⟩

structure Cols (kl kr ml mr : Nat) : Prop where
  a : kl ≠ kr
  b : kl ≠ ml
  c : kl ≠ mr
  d : kl ≠ 5
  e : kr ≠ ml
  f : kr ≠ mr
  g : kr ≠ 5
  h : ml ≠ mr
  i : ml ≠ 5
  j : mr ≠ 5
  k : kl ≠ 0
  l : kr ≠ 0
  m : ml ≠ 0
  n : mr ≠ 0
structure Mem (B : Nat) (w0 w : World) (C : Nat → Nat) (Q : Nat) (va vb vc : Value) (ps qs : List (Option Nat)) (on : List ByteArray) (kl kr ml mr P R P' R' : Nat) (s s' : St) (l l' : LS) : Prop where
  col : Cols kl kr ml mr
  pl : LndAt w P l (fun b => C b = kl)
  pr : SndAt w R s (fun b => C b = kr)
  ql : LndAt w P' l' (fun b => C b = ml)
  qr : SndAt w R' s' (fun b => C b = mr)
  wm : WM w Q (fun b => C b = 5) va vb vc ps qs on
  bel : Below B w0 w
  low : ∀ b, b < B → C b = 0
  room : B ≤ w.heap.size
section
variable {B : Nat} {w0 w w1 : World} {C : Nat → Nat} {Q : Nat} {va vb vc : Value} {ps qs : List (Option Nat)} {on : List ByteArray} {kl kr ml mr P R P' R' : Nat} {s s' : St} {l l' : LS}
theorem keep_low (low : ∀ b, b < B → C b = 0) (hB : B ≤ w.heap.size) (k : Nat) : ∀ b, b < B → paint C k w.heap.size b = 0 := fun b hb => by rw [paint_old (by omega)]; exact low b hb
theorem stay_l {k j : Nat} (hjk : j ≠ k) (h : LndAt w P l (fun b => C b = j)) (t : Touch w w1 (fun b => C b = k)) : LndAt w1 P l (fun b => paint C k w.heap.size b = j) :=
  h.stay t (fun b h1 h2 => hjk (h1.symm.trans h2)) (fun b h1 h2 => by rw [paint_old h2]; exact h1)
theorem stay_r {k j : Nat} (hjk : j ≠ k) (h : SndAt w R s (fun b => C b = j)) (t : Touch w w1 (fun b => C b = k)) : SndAt w1 R s (fun b => paint C k w.heap.size b = j) :=
  h.stay t (fun b h1 h2 => hjk (h1.symm.trans h2)) (fun b h1 h2 => by rw [paint_old h2]; exact h1)
theorem stay_w {k j : Nat} (hjk : j ≠ k) (h : WM w Q (fun b => C b = j) va vb vc ps qs on) (t : Touch w w1 (fun b => C b = k)) : WM w1 Q (fun b => paint C k w.heap.size b = j) va vb vc ps qs on :=
  h.stay t (fun b h1 h2 => hjk (h1.symm.trans h2)) (fun b h1 h2 => by rw [paint_old h2]; exact h1)
theorem Mem.landed {l1 : LS} (h : Mem B w0 w C Q va vb vc ps qs on kl kr ml mr P R P' R' s s' l l') (t : Touch w w1 (fun b => C b = kl)) (hl : LndAt w1 P l1 (grow (fun b => C b = kl) w w1)) :
    Mem B w0 w1 (paint C kl w.heap.size) Q va vb vc ps qs on kl kr ml mr P R P' R' s s' l1 l' :=
  ⟨h.col, hl.mono (fun b hb _ => paint_grow hb), stay_r (fun e => h.col.a e.symm) h.pr t, stay_l (fun e => h.col.b e.symm) h.ql t, stay_r (fun e => h.col.c e.symm) h.qr t, stay_w (fun e => h.col.d e.symm) h.wm t, below_touch h.bel h.low t h.col.k h.room, keep_low h.low h.room kl, by have := h.room; have := t.size; omega⟩
theorem Mem.refd {s1 : St} (h : Mem B w0 w C Q va vb vc ps qs on kl kr ml mr P R P' R' s s' l l') (t : Touch w w1 (fun b => C b = kr)) (hl : SndAt w1 R s1 (grow (fun b => C b = kr) w w1)) :
    Mem B w0 w1 (paint C kr w.heap.size) Q va vb vc ps qs on kl kr ml mr P R P' R' s1 s' l l' :=
  ⟨h.col, stay_l h.col.a h.pl t, hl.mono (fun b hb _ => paint_grow hb), stay_l (fun e => h.col.e e.symm) h.ql t, stay_r (fun e => h.col.f e.symm) h.qr t, stay_w (fun e => h.col.g e.symm) h.wm t, below_touch h.bel h.low t h.col.l h.room, keep_low h.low h.room kr, by have := h.room; have := t.size; omega⟩
theorem Mem.above (h : Mem B w0 w C Q va vb vc ps qs on kl kr ml mr P R P' R' s s' l l') (hb : Below w.heap.size w w1) :
    Mem B w0 w1 (fun b => if w.heap.size ≤ b then 0 else C b) Q va vb vc ps qs on kl kr ml mr P R P' R' s s' l l' := by
  have t : ∀ F : Nat → Prop, Touch w w1 F := fun F => Touch.of_below hb
  have old : ∀ j b, C b = j → b < w.heap.size → (if w.heap.size ≤ b then 0 else C b) = j := fun j b h1 h2 => by rw [if_neg (by omega)]; exact h1
  exact ⟨h.col, h.pl.stay (t (fun _ => False)) (fun _ _ h => h) (old kl), h.pr.stay (t (fun _ => False)) (fun _ _ h => h) (old kr), h.ql.stay (t (fun _ => False)) (fun _ _ h => h) (old ml), h.qr.stay (t (fun _ => False)) (fun _ _ h => h) (old mr), h.wm.stay (t (fun _ => False)) (fun _ _ h => h) (old 5),
    h.bel.trans (hb.mono h.room), fun b hb' => by rw [if_neg (by have := h.room; omega)]; exact h.low b hb', by have := h.room; have := hb.size; omega⟩
theorem Mem.swap (h : Mem B w0 w C Q va vb vc ps qs on kl kr ml mr P R P' R' s s' l l') : Mem B w0 w C Q va vb vc ps qs on ml mr kl kr P' R' P R s' s l' l :=
  ⟨⟨h.col.h, fun e => h.col.b e.symm, fun e => h.col.e e.symm, h.col.i, fun e => h.col.c e.symm, fun e => h.col.f e.symm, h.col.j, h.col.a, h.col.d, h.col.g, h.col.m, h.col.n, h.col.k, h.col.l⟩, h.ql, h.qr, h.pl, h.pr, h.wm, h.bel, h.low, h.room⟩
theorem Mem.onto {o : Obj} {vc' : Value} {x : ByteArray} (h : Mem B w0 w C Q va vb vc ps qs on kl kr ml mr P R P' R' s s' l l') (hown : w1.ownsRow 0 9 1 vc' (on.length + 1) (strs on ++ [.string x])) (hg : (w.alloc o).grownBy w1 vc.ownBlock) (hat : vc'.ownBlock = vc.ownBlock ∨ vc'.ownBlock = some (w.alloc o).heap.size) :
    Mem B w0 (w1.setCell ⟨Q, 4, none⟩ vc') (paint C 5 w.heap.size) Q va vb vc' ps qs (on ++ [x]) kl kr ml mr P R P' R' s s' l l' := by
  have t : Touch w (w1.setCell ⟨Q, 4, none⟩ vc') (fun b => C b = 5) := touch_append hg h.wm.gc h.wm.gq
  have wm := WM.more_c (G' := fun b => paint C 5 w.heap.size b = 5) h.wm hown hg hat (fun b hb => by
    by_cases e : w.heap.size ≤ b
    · exact paint_new e
    · rw [paint_old (by omega)]; exact hb) (fun b hb _ => paint_new hb)
  exact ⟨h.col, stay_l h.col.d h.pl t, stay_r h.col.g h.pr t, stay_l h.col.i h.ql t, stay_r h.col.j h.qr t, wm, below_touch h.bel h.low t (by decide) h.room, keep_low h.low h.room 5, by have := h.room; have := t.size; omega⟩
end
end Sn
end Go.Proofs.Ytkgnmcekeeannaa
