import Derived.Test.YtkgnmcekeeannabW51
/-
  Serves: what it is made of, ahead of the losses.
-/
namespace Go.Proofs.Ytkgnmcekeeannab
open Go.RowKit Go.Deep
namespace Sn
open Bs
open Ms (txt text M It Tells)
set_option linter.unusedVariables false

def SJ0 (B : Nat → Prop) (w0 w : World) (Q P R O : Nat) (s : St) (r ro : Rt) (c : Nat) : Prop :=
  ∃ C S v2 v4 v5 l, Tm B w0 w C Q S v2 r.taken v4 v5 s.objs [] [] P R l r ∧ LRcvAt w O ro (fun b => C b = 3) ∧ (∃ T, Rel s l T) ∧ TI s r [] [] c ∧ TI s ro [] [] c
section
variable {B : Nat → Prop} {w0 w w1 : World} {Q P R O : Nat} {s : St} {r ro : Rt} {c : Nat}
theorem SJ0.above (h : SJ0 B w0 w Q P R O s r ro c) (hb : Below w.heap.size w w1) : SJ0 B w0 w1 Q P R O s r ro c := by
  obtain ⟨C, S, v2, v4, v5, l, m, ho, hr, h1, h2⟩ := h
  have t : Touch w w1 (fun _ => False) := Touch.of_below hb
  exact ⟨_, S, v2, v4, v5, l, m.keep 0 t (fun _ _ h => h), ho.stay t (fun _ _ h => h) (fun b => old_paint), hr, h1, h2⟩
theorem SJ0.tj (h : SJ0 B w0 w Q P R O s r ro c) : TJ B w0 w Q P R s r [] [] c := by
  obtain ⟨C, S, v2, v4, v5, l, m, ho, hr, h1, h2⟩ := h
  exact ⟨C, S, v2, v4, v5, l, m, hr, h1⟩
theorem SJ0.new {n : Nm} (h : TJ B w0 w Q P R s r [] [] c) (hb : Below w.heap.size w w1) (hO : LRcvAt w1 O (Rt.fresh n) (fun x => w.heap.size ≤ x ∧ x < w1.heap.size)) (hi : TI s (Rt.fresh n) [] [] c) : SJ0 B w0 w1 Q P R O s r (Rt.fresh n) c := by
  obtain ⟨C, S, v2, v4, v5, l, m, hr, h1⟩ := h
  have t : Touch w w1 (fun _ => False) := Touch.of_below hb
  exact ⟨_, S, v2, v4, v5, l, m.keep 3 t (fun _ _ h => h), hO.mono (fun b hb _ => paint_new hb.1), hr, h1, hi⟩
theorem SJ0.frame (h : SJ0 B w0 w Q P R O s r ro c) :
    ∃ D, TJ D w w Q P R s r [] [] c ∧ ∀ w' s' r' c', TJ D w w' Q P R s' r' [] [] c' → TI s' ro [] [] c' → SJ0 B w0 w' Q P R O s' r' ro c' := by
  obtain ⟨C, S, v2, v4, v5, l, m, ho, hr, h1, h2⟩ := h
  refine ⟨fun b => b < w.heap.size ∧ C b ≠ 1 ∧ C b ≠ 2 ∧ C b ≠ 5, ⟨fun b => if C b = 1 ∨ C b = 2 ∨ C b = 5 then C b else 0, S, v2, v4, v5, l, ⟨?_, ?_, ?_, Touch.refl _ _, ?_, ?_⟩, hr, h1⟩, ?_⟩
  · refine m.sl.mono (fun b hb _ => ?_)
    show (if C b = 1 ∨ C b = 2 ∨ C b = 5 then C b else 0) = 1
    rw [if_pos (.inl hb)]; exact hb
  · refine m.rl.mono (fun b hb _ => ?_)
    show (if C b = 1 ∨ C b = 2 ∨ C b = 5 then C b else 0) = 2
    rw [if_pos (.inr (.inl hb))]; exact hb
  · refine m.wm.stay (Touch.refl _ (fun _ => False)) (fun _ _ h => h) (fun b hb _ => ?_)
    show (if C b = 1 ∨ C b = 2 ∨ C b = 5 then C b else 0) = 5
    rw [if_pos (.inr (.inr hb))]; exact hb
  · intro b ⟨_, q1, q2, q3⟩
    show (if C b = 1 ∨ C b = 2 ∨ C b = 5 then C b else 0) = 0
    rw [if_neg (by omega)]
  · intro b hb; exact hb.1
  · rintro w' s' r' c' ⟨C2, S2, u2, u4, u5, l2, m2, hr2, h12⟩ h22
    have hsz := m2.bel.size
    have keep : ∀ b, b < w.heap.size → C b ≠ 1 → C b ≠ 2 → C b ≠ 5 → w'.heap[b]? = w.heap[b]? := fun b q q1 q2 q3 => m2.bel.block b q (fun hn => hn ⟨q, q1, q2, q3⟩)
    have zero : ∀ b, b < w.heap.size → C b ≠ 1 → C b ≠ 2 → C b ≠ 5 → C2 b = 0 := fun b q q1 q2 q3 => m2.low b ⟨q, q1, q2, q3⟩
    have base : ∀ j, j = 1 ∨ j = 2 ∨ j = 5 → ∀ b, C2 b = j → (if b < w.heap.size ∧ C b = 3 then C b else C2 b) = j := fun j hj b hb => by
      rw [if_neg]
      · exact hb
      · rintro ⟨q1, q2⟩
        have := zero b q1 (by omega) (by omega) (by omega)
        omega
    refine ⟨fun b => if b < w.heap.size ∧ C b = 3 then C b else C2 b, S2, u2, u4, u5, l2, ⟨?_, ?_, ?_, ?_, ?_, ?_⟩, ?_, hr2, h12, h22⟩
    · exact m2.sl.mono (fun b hb _ => base 1 (by omega) b hb)
    · exact m2.rl.mono (fun b hb _ => base 2 (by omega) b hb)
    · exact m2.wm.stay (Touch.refl _ (fun _ => False)) (fun _ _ h => h) (fun b hb _ => base 5 (by omega) b hb)
    · refine touch_else m.bel m2.bel (fun b hb hn => hn ?_)
      have := m.low b hb
      exact ⟨m.room b hb, by omega, by omega, by omega⟩
    · intro b hb
      have q := m.low b hb
      have hl := m.room b hb
      show (if b < w.heap.size ∧ C b = 3 then C b else C2 b) = 0
      rw [if_neg (by omega)]
      exact zero b hl (by omega) (by omega) (by omega)
    · intro b hb; exact Nat.lt_of_lt_of_le (m.room b hb) hsz
    · have t3 : Touch w w' (fun b => ¬ (b < w.heap.size ∧ C b = 3)) := ⟨m2.bel.os, m2.bel.tape, m2.bel.output, m2.bel.size, fun b hb hn => by
        by_cases q : b < w.heap.size ∧ C b = 3
        · exact keep b hb (by omega) (by omega) (by omega)
        · exact absurd q hn⟩
      have h3 : LRcvAt w O ro (fun b => b < w.heap.size ∧ C b = 3) := ho.mono (fun b hb hl => ⟨hl, hb⟩)
      refine h3.stay t3 (fun b hb hn => hn hb) (fun b hb _ => ?_)
      show (if b < w.heap.size ∧ C b = 3 then C b else C2 b) = 3
      rw [if_pos hb]; exact hb.2
theorem SJ0.lost {X Y : Nat} {fx fy : Nat → Nat} (h : SJ0 B w0 w Q P R O s r ro c) (hb : Below w.heap.size w w1) (hx : LostAt w1 X fx) (hy : LostAt w1 Y fy) (hX : w.heap.size ≤ X) (hY : w.heap.size ≤ Y) (hne : X ≠ Y) : SJ B w0 w1 Q P R O X Y s r ro fx fy c := by
  obtain ⟨C, S, v2, v4, v5, l, m, ho, hr, h1, h2⟩ := h
  have t : Touch w w1 (fun _ => False) := Touch.of_below hb
  have old : ∀ j b, C b = j → b < w.heap.size → (if b = Y then 6 else paint C 4 w.heap.size b) = j := fun j b h1 h2 => by rw [if_neg (by omega)]; exact old_paint h1 h2
  refine ⟨fun b => if b = Y then 6 else paint C 4 w.heap.size b, S, v2, v4, v5, l, ⟨⟨?_, ?_, ?_, ?_, ?_, ?_⟩, ?_, hx, hy, ?_, ?_⟩, hr, h1, h2⟩
  · exact m.sl.stay t (fun _ _ h => h) (old 1)
  · exact m.rl.stay t (fun _ _ h => h) (old 2)
  · exact m.wm.stay t (fun _ _ h => h) (old 5)
  · exact touch_else m.bel t (fun _ _ h => h)
  · intro b hb; exact old 0 b (m.low b hb) (m.room b hb)
  · exact keep_room m.room t
  · exact ho.stay t (fun _ _ h => h) (old 3)
  · show (if X = Y then 6 else paint C 4 w.heap.size X) = 4
    rw [if_neg hne]; exact paint_new hX
  · show (if Y = Y then 6 else paint C 4 w.heap.size Y) = 6
    rw [if_pos rfl]
end
theorem lost_new (w : World) : LostAt (w.alloc (.cells Try.zeroCells63 63)) w.heap.size (fun _ => 0) := by
  unfold LostAt
  have h := World.rowIs_alloc w (Array.replicate 2048 (.int .i64 0)) 63 (fun _ => .int .i64 ((0 : Nat) : Int)) (fun i hi => by
    rw [Array.size_replicate] at hi
    rw [Array.getElem?_replicate, if_pos hi]; rfl)
  rw [Array.size_replicate] at h
  rw [lostZero]
  exact h
theorem SJ0.losts {B : Nat → Prop} {w0 w : World} {Q P R O : Nat} {s : St} {r ro : Rt} {c : Nat} (h : SJ0 B w0 w Q P R O s r ro c) :
    SJ B w0 ((w.alloc (.cells Try.zeroCells63 63)).alloc (.cells Try.zeroCells63 63)) Q P R O w.heap.size (w.heap.size + 1) s r ro (fun _ => 0) (fun _ => 0) c := by
  have b1 : Below w.heap.size w (w.alloc (.cells Try.zeroCells63 63)) := (Below.refl _ _).alloc (Nat.le_refl _) _
  have hs : (w.alloc (.cells Try.zeroCells63 63)).heap.size = w.heap.size + 1 := by simp
  have l1 := lost_new w
  have l2 := lost_new (w.alloc (.cells Try.zeroCells63 63))
  rw [hs] at l2
  have b2 : Below (w.alloc (.cells Try.zeroCells63 63)).heap.size (w.alloc (.cells Try.zeroCells63 63)) ((w.alloc (.cells Try.zeroCells63 63)).alloc (.cells Try.zeroCells63 63)) := (Below.refl _ _).alloc (Nat.le_refl _) _
  exact h.lost (b1.trans (b2.mono b1.size)) (l1.of_block (b2.block _ l1.lt)) l2 (Nat.le_refl _) (by omega) (by omega)
theorem SJ.ti {B : Nat → Prop} {w0 w : World} {Q P R O X Y c : Nat} {s : St} {r ro : Rt} {fx fy : Nat → Nat} (h : SJ B w0 w Q P R O X Y s r ro fx fy c) : TI s r [] [] c ∧ TI s ro [] [] c := by
  obtain ⟨C, S, v2, v4, v5, l, m, hr, h1, h2⟩ := h
  exact ⟨h1, h2⟩
theorem SJ.tj {B : Nat → Prop} {w0 w : World} {Q P R O X Y c : Nat} {s : St} {r ro : Rt} {fx fy : Nat → Nat} (h : SJ B w0 w Q P R O X Y s r ro fx fy c) : TJ B w0 w Q P R s r [] [] c := by
  obtain ⟨C, S, v2, v4, v5, l, m, hr, h1, h2⟩ := h
  exact ⟨C, S, v2, v4, v5, l, m.tm, hr, h1⟩
theorem miss_ti {s : St} {r r' : Rt} {L L' : Nat → Nat → Nat} {c : Nat} (h : TI s r [] [] c) (hc : c + 1 ≤ 4611686018427387904) (hm : Miss s r L r' L') : TI (nxt s).1 r' [] [] (c + 2) ∧ r'.taken = r.taken := by
  have h1 : TI (nxt s).1 r [] [] (c + 1) := (h.nxt).less (fun t ht => by cases ht) (fun t ht => ht)
  have hho : Honest (nxt s).1.n (nxt s).1.objs (nxtM s) := by rw [(nxt_same s).1, (nxt_same s).2]; exact nxtM_honest h.sok
  rcases hm with ⟨rfl, _⟩ | ⟨rfl, _⟩
  · exact ⟨(h1.hear hho hc).2, (hear_n r _).2⟩
  · exact ⟨h1.mono (by omega), rfl⟩
/-- the numbers -/
theorem tripNumbers (a b c : Int) (ha : -9223372036854775808 ≤ a) (ha2 : a ≤ 9223372036854775807) (hb : -9223372036854775808 ≤ b) (hb2 : b ≤ 9223372036854775807) (hc : -9223372036854775808 ≤ c) (hc2 : c ≤ 9223372036854775807) :
    ∃ n : Nm, n.ok ∧ ∀ w, Calls Try.prog 17 #[.int .i64 a, .int .i64 b, .int .i64 c] w fun e w' => e = .returned (.agg #[.int .i64 n.size, .int .i64 n.block, .int .i64 n.spare]) ∧ Below w.heap.size w w' := by
  obtain ⟨x, hx, X⟩ := pickK a 16 ha ha2 (by omega) (by omega)
  obtain ⟨y, hy, Y⟩ := pickK b 8 hb hb2 (by omega) (by omega)
  obtain ⟨z, hz, Z⟩ := pickK c 9 hc hc2 (by omega) (by omega)
  refine ⟨⟨1 + x, 1 + y, z⟩, ⟨by show 1 ≤ 1 + x; omega, by show 1 + x ≤ 16; omega, by show 1 ≤ 1 + y; omega, by show 1 + y ≤ 8; omega, by show z ≤ 8; omega⟩, fun w => ?_⟩
  have HB : Hid (Below w.heap.size w w) := Below.refl _ _
  obtain ⟨W, hW⟩ : ∃ W, W = w.alloc (.cells #[.int .i64 0, .int .i64 0, .int .i64 0] 33) := ⟨_, rfl⟩
  obtain ⟨N, hN⟩ : ∃ N, N = w.heap.size := ⟨_, rfl⟩
  have R0 : W.rowIs N 33 3 (fun j => ([.int .i64 0, .int .i64 0, .int .i64 0] : List Value).getD j undef) := by
    rw [hW, hN]
    exact World.rowIs_alloc w #[.int .i64 0, .int .i64 0, .int .i64 0] 33 _ (fun i hi => by
      match i, hi with
      | 0, _ => rfl
      | 1, _ => rfl
      | 2, _ => rfl)
  have HBN : Hid (Below w.heap.size w W ∧ w.heap.size ≤ N) := ⟨by rw [hW]; exact (Below.refl _ _).alloc (Nat.le_refl _) _, by rw [hN]; exact Nat.le_refl _⟩
  have c0 : W.cell? ⟨N, 0, none⟩ = some (.int .i64 0) := R0.cell (i := 0) (by decide)
  have c1 : W.cell? ⟨N, 1, none⟩ = some (.int .i64 0) := R0.cell (i := 1) (by decide)
  have c2 : W.cell? ⟨N, 2, none⟩ = some (.int .i64 0) := R0.cell (i := 2) (by decide)
  have f0 := R0.frozen 0
  have f1 := R0.frozen 1
  have f2 := R0.frozen 2
  have hNW : N < W.heap.size := R0.lt
  have HR0 : Hid (W.rowIs N 33 3 (fun j => ([.int .i64 0, .int .i64 0, .int .i64 0] : List Value).getD j undef)) := R0
  clear R0
  go_enter Try.func17, Try.ntmps17
  go_wp2_with fail
  simp only [← hW, ← hN]
  clear hN hW
  refine (X _).mono ?_
  rintro e w1 ⟨rfl, rfl⟩
  clear X
  go_wp2_with fail
  refine (Y _).mono ?_
  rintro e w2 ⟨rfl, rfl⟩
  clear Y
  go_wp2_with fail
  refine (Z _).mono ?_
  rintro e w3 ⟨rfl, rfl⟩
  clear Z
  go_wp2_with fail
  have R1 := ((HR0.out.set 0 (.int .i64 (1 + (x : Int)))).set 1 (.int .i64 (1 + (y : Int)))).set 2 (.int .i64 (z : Int))
  have e1 : (1 + (x : Int)) = ((1 + x : Nat) : Int) := by omega
  have e2 : (1 + (y : Int)) = ((1 + y : Nat) : Int) := by omega
  have y0 : (((w3.setCell ⟨N, 0, none⟩ (.int .i64 (1 + (x : Int)))).setCell ⟨N, 1, none⟩ (.int .i64 (1 + (y : Int)))).setCell ⟨N, 2, none⟩ (.int .i64 (z : Int))).cell? ⟨N, 0, none⟩ = some (.int .i64 (1 + (x : Int))) := R1.cell (i := 0) (by decide)
  have y1 : (((w3.setCell ⟨N, 0, none⟩ (.int .i64 (1 + (x : Int)))).setCell ⟨N, 1, none⟩ (.int .i64 (1 + (y : Int)))).setCell ⟨N, 2, none⟩ (.int .i64 (z : Int))).cell? ⟨N, 1, none⟩ = some (.int .i64 (1 + (y : Int))) := R1.cell (i := 1) (by decide)
  have y2 : (((w3.setCell ⟨N, 0, none⟩ (.int .i64 (1 + (x : Int)))).setCell ⟨N, 1, none⟩ (.int .i64 (1 + (y : Int)))).setCell ⟨N, 2, none⟩ (.int .i64 (z : Int))).cell? ⟨N, 2, none⟩ = some (.int .i64 (z : Int)) := R1.cell (i := 2) (by decide)
  have hB : Below w.heap.size w (((w3.setCell ⟨N, 0, none⟩ (.int .i64 (1 + (x : Int)))).setCell ⟨N, 1, none⟩ (.int .i64 (1 + (y : Int)))).setCell ⟨N, 2, none⟩ (.int .i64 (z : Int))) := ((HBN.out.1.setCell HBN.out.2 _).setCell HBN.out.2 _).setCell HBN.out.2 _
  generalize (((w3.setCell ⟨N, 0, none⟩ (.int .i64 (1 + (x : Int)))).setCell ⟨N, 1, none⟩ (.int .i64 (1 + (y : Int)))).setCell ⟨N, 2, none⟩ (.int .i64 (z : Int))) = W3 at *
  rw [e1] at y0
  rw [e2] at y1
  refine bodyPost_ret (v := .agg #[.int .i64 ((1 + x : Nat) : Int), .int .i64 ((1 + y : Nat) : Int), .int .i64 z]) (by simp [results, Try.results17, go_sem, y0, y1, y2]) rfl ?_
  exact ⟨rfl, hB⟩
end Sn
end Go.Proofs.Ytkgnmcekeeannab
