import Derived.Test.YtkgnmcekeeannaaZ36
import Derived.Test.YtkgnmcekeeannaaZ38
import Derived.Test.YtkgnmcekeeannaaZ10
/-
  The landed sender's calls, as the caller sees them.
-/
namespace Go.Proofs.Ytkgnmcekeeannaa
open Go.RowKit Go.Deep
namespace Sn
open Bs
set_option linter.unusedVariables false

set_option maxHeartbeats 1000000 in
theorem rEnqueue (s : LS) (o : ByteArray) (P : Nat) (F : Nat → Prop) (w : World) (hs : LOk s) (ho : o.size ≤ maxLen) (hA : LndAt w P s F) :
    Calls Try.prog 55 #[.pointer (some ⟨P, 0, none⟩), .string o] w fun e w' => e = .returned (.tuple #[.int .i64 (s.enq o).2.1, .int .i64 (s.enq o).2.2]) ∧ LndAt w' P (s.enq o).1 (grow F w w') ∧ Touch w w' F := by
  have H := lanEnqueue s o P F w hs ho hA
  clear hA hs ho
  generalize (s.enq o).1 = S1 at *
  generalize (s.enq o).2.1 = a at *
  generalize (s.enq o).2.2 = b at *
  go_enter Try.func55, Try.ntmps55
  go_wp2_with fail
  refine H.mono ?_
  rintro e w1 ⟨rfl, h1, h2⟩
  have H1 : Hid (LndAt w1 P S1 (grow F w w1)) := h1
  have H2 : Hid (Touch w w1 F) := h2
  clear H h1 h2
  go_wp2
  go_ret2
  exact ⟨rfl, H1.out, H2.out⟩
set_option maxHeartbeats 1000000 in
theorem rNext (s : LS) (P : Nat) (F : Nat → Prop) (ao : Option Addr) (co : Nat) (D : Nat → Nat) (w : World) (hs : LOk2 s) (hA : LI w P s F ao co D) :
    Calls Try.prog 57 #[.pointer (some ⟨P, 0, none⟩)] w fun e w' => ∃ s', NextOut s s' e ∧ LI w' P s' F ao co D ∧ Touch w w' F := by
  have H := lanNext s P F ao co D w hs hA
  have H2 : Calls Try.prog 77 #[.pointer (some ⟨P, 0, none⟩)] w fun e w' => ∃ v, e = .returned (.string v) ∧ Hid (∃ s', NextOut s s' (.returned (.string v)) ∧ LI w' P s' F ao co D ∧ Touch w w' F) := by
    refine H.mono ?_
    rintro e w' ⟨s', ho, h1, h2⟩
    rcases ho with ⟨i, b, hf, rfl, rfl⟩ | ⟨h3, h4, rfl, rfl⟩ | ⟨h3, h4, rfl, rfl⟩
    · exact ⟨_, rfl, _, .inl ⟨i, b, hf, rfl, rfl⟩, h1, h2⟩
    · exact ⟨_, rfl, _, .inr (.inl ⟨h3, h4, rfl, rfl⟩), h1, h2⟩
    · exact ⟨_, rfl, _, .inr (.inr ⟨h3, h4, rfl, rfl⟩), h1, h2⟩
  clear hA hs H
  go_enter Try.func57, Try.ntmps57
  go_wp2_with fail
  refine H2.mono ?_
  rintro e w1 ⟨v, rfl, h1⟩
  clear H2
  go_wp2
  go_ret
  exact h1.out
set_option maxHeartbeats 1000000 in
theorem rHear (s : LS) (tx : ByteArray) (P : Nat) (F : Nat → Prop) (ao : Option Addr) (co : Nat) (D : Nat → Nat) (w : World) (hs : LOk s) (h8 : OW8 s) (ht : tx.size ≤ 1048576) (hA : LI w P s F ao co D) :
    Calls Try.prog 59 #[.pointer (some ⟨P, 0, none⟩), .string tx] w fun e w' => ∃ s', LHearOut s s' tx e ∧ LI w' P s' F ao co D ∧ Touch w w' F := by
  have H := lanHear s tx P F ao co D w hs h8 ht hA
  have H2 : Calls Try.prog 81 #[.pointer (some ⟨P, 0, none⟩), .string tx] w fun e w' => ∃ v : Int, e = .returned (.int .i64 v) ∧ Hid (∃ s', LHearOut s s' tx (.returned (.int .i64 v)) ∧ LI w' P s' F ao co D ∧ Touch w w' F) := by
    refine H.mono ?_
    rintro e w' ⟨s', ho, h1, h2⟩
    rcases ho with ⟨m, h3, h4, rfl, rfl⟩ | ⟨h3, rfl, rfl⟩
    · exact ⟨0, rfl, _, .inl ⟨m, h3, h4, rfl, rfl⟩, h1, h2⟩
    · exact ⟨6, rfl, _, .inr ⟨h3, rfl, rfl⟩, h1, h2⟩
  clear hA hs H
  go_enter Try.func59, Try.ntmps59
  go_wp2_with fail
  refine H2.mono ?_
  rintro e w1 ⟨v, rfl, h1⟩
  clear H2
  go_wp2
  go_ret
  exact h1.out
end Sn
end Go.Proofs.Ytkgnmcekeeannaa
/-
  Four senders and the law's own memory, side by side.
-/
namespace Go.Proofs.Ytkgnmcekeeannaa
open Go.RowKit Go.Deep
namespace Sn
open Bs
open Ms (owns_setCell)
set_option linter.unusedVariables false

theorem owns_same {w w' : World} {base e size n : Nat} {v : Value} {xs : List Value} (h : w.ownsRow base e size v n xs) (hb : ∀ b, v.ownBlock = some b → w'.heap[b]? = w.heap[b]?) : w'.ownsRow base e size v n xs := by
  refine ⟨h.1, ?_⟩
  rcases h.2 with hn | ⟨g, cap, cur, e, hb', hg, rest⟩
  · exact .inl hn
  · refine .inr ⟨g, cap, cur, e, hb', ?_, rest⟩
    rw [hb g (by rw [e]; rfl)]
    exact hg
theorem LndAt.stay {w w' : World} {P : Nat} {s : LS} {F F' G : Nat → Prop} (h : LndAt w P s F) (t : Touch w w' G) (hd : ∀ b, F b → ¬ G b) (hF : ∀ b, F b → b < w.heap.size → F' b) : LndAt w' P s F' := by
  obtain ⟨ao, co, D, h⟩ := h
  refine ⟨ao, co, D, ?_⟩
  exact ⟨h.row.of_block (t.block _ h.row.lt (hd _ h.fP)), owns_same h.ob (fun b hb => t.block b (h.ob.lt b hb).2 (hd _ (h.fo b hb))), fun i hi => (h.db i hi).of_block (t.block _ (h.db i hi).lt (hd _ (h.fd i hi))),
    hF _ h.fP h.row.lt, fun b hb => hF _ (h.fo b hb) (h.ob.lt b hb).2, fun i hi => hF _ (h.fd i hi) (h.db i hi).lt, h.op, h.dp, h.od, h.dd⟩
theorem SndAt.stay {w w' : World} {P : Nat} {s : St} {F F' G : Nat → Prop} (h : SndAt w P s F) (t : Touch w w' G) (hd : ∀ b, F b → ¬ G b) (hF : ∀ b, F b → b < w.heap.size → F' b) : SndAt w' P s F' := by
  obtain ⟨ao, co, ad, cd, h⟩ := h
  have fo : ∀ b, (Value.slice ao s.objs.length co).ownBlock = some b → F b := fun b hb => (h.fo b hb).elim id (fun e => absurd (h.ob.lt b hb).2 (by omega))
  have fd : ∀ b, (Value.slice ad s.debts.length cd).ownBlock = some b → F b := fun b hb => (h.fd b hb).elim id (fun e => absurd (h.db.lt b hb).2 (by omega))
  refine ⟨ao, co, ad, cd, ?_⟩
  exact ⟨h.row.of_block (t.block _ h.row.lt (hd _ h.fP)), owns_same h.ob (fun b hb => t.block b (h.ob.lt b hb).2 (hd _ (fo b hb))), owns_same h.db (fun b hb => t.block b (h.db.lt b hb).2 (hd _ (fd b hb))),
    hF _ h.fP h.row.lt, h.op, h.dp, h.od, fun b hb => .inl (hF _ (fo b hb) (h.ob.lt b hb).2), fun b hb => .inl (hF _ (fd b hb) (h.db.lt b hb).2), Touch.refl _ _⟩
theorem LndAt.mono {w : World} {P : Nat} {s : LS} {F F' : Nat → Prop} (h : LndAt w P s F) (hF : ∀ b, F b → b < w.heap.size → F' b) : LndAt w P s F' := h.stay (Touch.refl w (fun _ => False)) (fun _ _ h => h) hF
theorem SndAt.mono {w : World} {P : Nat} {s : St} {F F' : Nat → Prop} (h : SndAt w P s F) (hF : ∀ b, F b → b < w.heap.size → F' b) : SndAt w P s F' := h.stay (Touch.refl w (fun _ => False)) (fun _ _ h => h) hF

/-! ### the law's own memory -/
theorem infoPL : (Try.prog.info? 87).map (fun i => (i.zero, i.size, i.bytes)) = some (some (.pointer none), 1, 8) := by kernel_rfl
theorem infoPR : (Try.prog.info? 90).map (fun i => (i.zero, i.size, i.bytes)) = some (some (.pointer none), 1, 8) := by kernel_rfl
def ptrs (l : List (Option Nat)) : List Value := l.map (fun p => Value.pointer (p.map (fun b => ⟨b, 0, none⟩)))
def wRow (va vb vc : Value) (j : Nat) : Value := ([va, vb, .slice none 0 0, .slice none 0 0, vc, .slice none 0 0] : List Value).getD j undef
structure WM (w : World) (Q : Nat) (G : Nat → Prop) (va vb vc : Value) (ps qs : List (Option Nat)) (on : List ByteArray) : Prop where
  row : w.rowIs Q 86 6 (wRow va vb vc)
  a : w.ownsRow 0 87 1 va ps.length (ptrs ps)
  b : w.ownsRow 0 90 1 vb qs.length (ptrs qs)
  c : w.ownsRow 0 9 1 vc on.length (strs on)
  gq : G Q
  ga : ∀ x, va.ownBlock = some x → G x
  gb : ∀ x, vb.ownBlock = some x → G x
  gc : ∀ x, vc.ownBlock = some x → G x
  aq : va.ownBlock ≠ some Q
  bq : vb.ownBlock ≠ some Q
  cq : vc.ownBlock ≠ some Q
  ab : ∀ x, va.ownBlock = some x → vb.ownBlock ≠ some x
  ac : ∀ x, va.ownBlock = some x → vc.ownBlock ≠ some x
  bc : ∀ x, vb.ownBlock = some x → vc.ownBlock ≠ some x
theorem WM.stay {w w' : World} {Q : Nat} {G G' H : Nat → Prop} {va vb vc : Value} {ps qs : List (Option Nat)} {on : List ByteArray} (h : WM w Q G va vb vc ps qs on) (t : Touch w w' H) (hd : ∀ b, G b → ¬ H b) (hG : ∀ b, G b → b < w.heap.size → G' b) : WM w' Q G' va vb vc ps qs on :=
  ⟨h.row.of_block (t.block _ h.row.lt (hd _ h.gq)), owns_same h.a (fun b hb => t.block b (h.a.lt b hb).2 (hd _ (h.ga b hb))), owns_same h.b (fun b hb => t.block b (h.b.lt b hb).2 (hd _ (h.gb b hb))), owns_same h.c (fun b hb => t.block b (h.c.lt b hb).2 (hd _ (h.gc b hb))),
    hG _ h.gq h.row.lt, fun x hx => hG _ (h.ga x hx) (h.a.lt x hx).2, fun x hx => hG _ (h.gb x hx) (h.b.lt x hx).2, fun x hx => hG _ (h.gc x hx) (h.c.lt x hx).2, h.aq, h.bq, h.cq, h.ab, h.ac, h.bc⟩
theorem WM.drew {w : World} {Q : Nat} {G : Nat → Prop} {va vb vc : Value} {ps qs : List (Option Nat)} {on : List ByteArray} (h : WM w Q G va vb vc ps qs on) : WM w.drew Q G va vb vc ps qs on :=
  ⟨h.row, h.a, h.b, h.c, h.gq, h.ga, h.gb, h.gc, h.aq, h.bq, h.cq, h.ab, h.ac, h.bc⟩
theorem new_ne {w w1 : World} {v v' : Value} {o : Obj} (hat : v'.ownBlock = v.ownBlock ∨ v'.ownBlock = some (w.alloc o).heap.size) {x : Nat} (hx : x < w.heap.size) (hne : v.ownBlock ≠ some x) : v'.ownBlock ≠ some x := fun e => by
  rcases hat with h | h
  · rw [h] at e; exact hne e
  · rw [h] at e; simp at e; omega
theorem grown_block {w w1 : World} {v : Value} {o : Obj} (hg : (w.alloc o).grownBy w1 v.ownBlock) {x : Nat} (hx : x < w.heap.size) (hne : v.ownBlock ≠ some x) : w1.heap[x]? = w.heap[x]? :=
  (hg.block x (by simp; omega) (fun e => hne e.symm)).trans (Below.heap_alloc w _ x hx)
theorem touch_append {w w1 : World} {v y : Value} {o : Obj} {G : Nat → Prop} {Q j : Nat} (hg : (w.alloc o).grownBy w1 v.ownBlock) (hv : ∀ x, v.ownBlock = some x → G x) (hQ : G Q) : Touch w (w1.setCell ⟨Q, j, none⟩ y) G := by
  have hs := hg.size
  refine ⟨hg.os, hg.tape, hg.output, by simp at hs ⊢; omega, fun x hx hG => ?_⟩
  rw [heap_setCell_other _ _ _ _ (fun e => hG (by rw [e]; exact hQ))]
  exact grown_block hg hx (fun e => hG (hv x e))
theorem WM.more_a {w w1 : World} {Q : Nat} {G G' : Nat → Prop} {va vb vc va' : Value} {ps qs : List (Option Nat)} {on : List ByteArray} {x : Option Nat} {o : Obj} (h : WM w Q G va vb vc ps qs on)
    (hown : w1.ownsRow 0 87 1 va' (ps.length + 1) (ptrs ps ++ [.pointer (x.map (fun b => ⟨b, 0, none⟩))])) (hg : (w.alloc o).grownBy w1 va.ownBlock) (hat : va'.ownBlock = va.ownBlock ∨ va'.ownBlock = some (w.alloc o).heap.size)
    (hG : ∀ b, G b → G' b) (hn : ∀ b, w.heap.size ≤ b → b < w1.heap.size → G' b) : WM (w1.setCell ⟨Q, 0, none⟩ va') Q G' va' vb vc (ps ++ [x]) qs on := by
  have hl : (ps ++ [x]).length = ps.length + 1 := by simp
  have hx : ptrs (ps ++ [x]) = ptrs ps ++ [.pointer (x.map (fun b => ⟨b, 0, none⟩))] := by simp [ptrs]
  exact ⟨((h.row.of_block (grown_block hg h.row.lt h.aq)).set 0 _).congr (fun j hj => by match j, hj with | 0, _ => rfl | 1, _ => rfl | 2, _ => rfl | 3, _ => rfl | 4, _ => rfl | 5, _ => rfl),
    by rw [hl, hx]; exact owns_setCell hown (new_ne (w1 := w1) hat h.row.lt h.aq),
    owns_setCell (owns_same h.b (fun b hb => grown_block hg (h.b.lt b hb).2 (fun e => h.ab b e hb))) h.bq,
    owns_setCell (owns_same h.c (fun b hb => grown_block hg (h.c.lt b hb).2 (fun e => h.ac b e hb))) h.cq,
    hG _ h.gq,
    fun b hb => by
      rcases hat with e | e
      · rw [e] at hb; exact hG _ (h.ga b hb)
      · have := (hown.lt b hb).2; rw [e] at hb; simp at hb; exact hn b (by omega) this,
    fun b hb => hG _ (h.gb b hb),
    fun b hb => hG _ (h.gc b hb),
    new_ne (w1 := w1) hat h.row.lt h.aq,
    h.bq,
    h.cq,
    fun b hb e => new_ne (w1 := w1) hat (h.b.lt b e).2 (fun e' => h.ab b e' e) hb,
    fun b hb e => new_ne (w1 := w1) hat (h.c.lt b e).2 (fun e' => h.ac b e' e) hb,
    h.bc⟩
theorem WM.more_b {w w1 : World} {Q : Nat} {G G' : Nat → Prop} {va vb vc vb' : Value} {ps qs : List (Option Nat)} {on : List ByteArray} {x : Option Nat} {o : Obj} (h : WM w Q G va vb vc ps qs on)
    (hown : w1.ownsRow 0 90 1 vb' (qs.length + 1) (ptrs qs ++ [.pointer (x.map (fun b => ⟨b, 0, none⟩))])) (hg : (w.alloc o).grownBy w1 vb.ownBlock) (hat : vb'.ownBlock = vb.ownBlock ∨ vb'.ownBlock = some (w.alloc o).heap.size)
    (hG : ∀ b, G b → G' b) (hn : ∀ b, w.heap.size ≤ b → b < w1.heap.size → G' b) : WM (w1.setCell ⟨Q, 1, none⟩ vb') Q G' va vb' vc ps (qs ++ [x]) on := by
  have hl : (qs ++ [x]).length = qs.length + 1 := by simp
  have hx : ptrs (qs ++ [x]) = ptrs qs ++ [.pointer (x.map (fun b => ⟨b, 0, none⟩))] := by simp [ptrs]
  exact ⟨((h.row.of_block (grown_block hg h.row.lt h.bq)).set 1 _).congr (fun j hj => by match j, hj with | 0, _ => rfl | 1, _ => rfl | 2, _ => rfl | 3, _ => rfl | 4, _ => rfl | 5, _ => rfl),
    owns_setCell (owns_same h.a (fun b hb => grown_block hg (h.a.lt b hb).2 (fun e => h.ab b hb e))) h.aq,
    by rw [hl, hx]; exact owns_setCell hown (new_ne (w1 := w1) hat h.row.lt h.bq),
    owns_setCell (owns_same h.c (fun b hb => grown_block hg (h.c.lt b hb).2 (fun e => h.bc b e hb))) h.cq,
    hG _ h.gq,
    fun b hb => hG _ (h.ga b hb),
    fun b hb => by
      rcases hat with e | e
      · rw [e] at hb; exact hG _ (h.gb b hb)
      · have := (hown.lt b hb).2; rw [e] at hb; simp at hb; exact hn b (by omega) this,
    fun b hb => hG _ (h.gc b hb),
    h.aq,
    new_ne (w1 := w1) hat h.row.lt h.bq,
    h.cq,
    fun b hb e => new_ne (w1 := w1) hat (h.a.lt b hb).2 (fun e' => h.ab b hb e') e,
    h.ac,
    fun b hb e => new_ne (w1 := w1) hat (h.c.lt b e).2 (fun e' => h.bc b e' e) hb⟩
theorem WM.more_c {w w1 : World} {Q : Nat} {G G' : Nat → Prop} {va vb vc vc' : Value} {ps qs : List (Option Nat)} {on : List ByteArray} {x : ByteArray} {o : Obj} (h : WM w Q G va vb vc ps qs on)
    (hown : w1.ownsRow 0 9 1 vc' (on.length + 1) (strs on ++ [.string x])) (hg : (w.alloc o).grownBy w1 vc.ownBlock) (hat : vc'.ownBlock = vc.ownBlock ∨ vc'.ownBlock = some (w.alloc o).heap.size)
    (hG : ∀ b, G b → G' b) (hn : ∀ b, w.heap.size ≤ b → b < w1.heap.size → G' b) : WM (w1.setCell ⟨Q, 4, none⟩ vc') Q G' va vb vc' ps qs (on ++ [x]) := by
  have hl : (on ++ [x]).length = on.length + 1 := by simp
  have hx : strs (on ++ [x]) = strs on ++ [.string x] := by simp [strs]
  exact ⟨((h.row.of_block (grown_block hg h.row.lt h.cq)).set 4 _).congr (fun j hj => by match j, hj with | 0, _ => rfl | 1, _ => rfl | 2, _ => rfl | 3, _ => rfl | 4, _ => rfl | 5, _ => rfl),
    owns_setCell (owns_same h.a (fun b hb => grown_block hg (h.a.lt b hb).2 (fun e => h.ac b hb e))) h.aq,
    owns_setCell (owns_same h.b (fun b hb => grown_block hg (h.b.lt b hb).2 (fun e => h.bc b hb e))) h.bq,
    by rw [hl, hx]; exact owns_setCell hown (new_ne (w1 := w1) hat h.row.lt h.cq),
    hG _ h.gq,
    fun b hb => hG _ (h.ga b hb),
    fun b hb => hG _ (h.gb b hb),
    fun b hb => by
      rcases hat with e | e
      · rw [e] at hb; exact hG _ (h.gc b hb)
      · have := (hown.lt b hb).2; rw [e] at hb; simp at hb; exact hn b (by omega) this,
    h.aq,
    h.bq,
    new_ne (w1 := w1) hat h.row.lt h.cq,
    h.ab,
    fun b hb e => new_ne (w1 := w1) hat (h.a.lt b hb).2 (fun e' => h.ac b hb e') e,
    fun b hb e => new_ne (w1 := w1) hat (h.b.lt b hb).2 (fun e' => h.bc b hb e') e⟩
end Sn
end Go.Proofs.Ytkgnmcekeeannaa
/-
  Which of n things a raw number speaks of, in the law's package.
-/
namespace Go.Proofs.Ytkgnmcekeeannaa
open Go.RowKit Go.Deep
namespace Sn
open Fld (ret_int val_int)

theorem lawPick (c : Int) (n : Nat) (w : World) (h1 : -9223372036854775808 ≤ c) (h2 : c ≤ 9223372036854775807) (hn : 1 ≤ n) (hn2 : n ≤ 4294967296) :
    Calls Try.prog 54 #[.int .i64 c, .int .i64 n] w fun e w' => (∃ r : Nat, r < n ∧ e = .returned (.int .i64 r)) ∧ w' = w := by
  have key : ∀ x : Int, 0 ≤ x → ∃ r : Nat, r < n ∧ x % (n : Int) = (r : Int) := fun x hx => by
    obtain ⟨m, rfl⟩ := Int.eq_ofNat_of_zero_le hx
    exact ⟨m % n, Nat.mod_lt _ hn, (Int.natCast_emod _ _).symm⟩
  by_cases h : c < 0
  · have h3 : 0 ≤ -(c + 1) := by omega
    obtain ⟨r, hr, he⟩ := key (-(c + 1)) h3
    have HE : Hid (-(c + 1) % (n : Int) = (r : Int)) := he
    clear key he
    go_enter Try.func54, Try.ntmps54
    go_wp2
    go_ret
    exact ⟨⟨r, hr, ret_int (by rw [← Int.neg_tmod, Int.tmod_eq_emod_of_nonneg h3]; exact HE.out)⟩, rfl⟩
  · have h3 : 0 ≤ c := by omega
    obtain ⟨r, hr, he⟩ := key c h3
    have HE : Hid (c % (n : Int) = (r : Int)) := he
    clear key he h
    go_enter Try.func54, Try.ntmps54
    go_wp2
    go_ret
    exact ⟨⟨r, hr, ret_int HE.out⟩, rfl⟩

end Sn
end Go.Proofs.Ytkgnmcekeeannaa
