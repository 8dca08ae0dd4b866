import Derived.Test.YtkgnmcekeeannabW50
/-
  Serves: of each block the greater of both losses, together.
-/
namespace Go.Proofs.Ytkgnmcekeeannab
open Go.RowKit Go.Deep
namespace Sn
open Bs
open Ms (txt text M It Tells)
set_option linter.unusedVariables false

theorem mostOf_le (f g : Nat → Nat) (hf : ∀ j, j < 2048 → f j ≤ 8 ∧ g j ≤ 8) : ∀ k, k ≤ 2048 → mostOf f g k ≤ 8 * k
  | 0, _ => Nat.le_refl _
  | k + 1, h => by
    have := mostOf_le f g hf k (by omega)
    have := hf k (by omega)
    rw [mostOf_succ]
    omega
set_option maxRecDepth 100000 in
set_option maxHeartbeats 2000000 in
theorem tripMost (X Y : Nat) (f g : Nat → Nat) (w : World) (hX : LostAt w X f) (hY : LostAt w Y g) (hf : ∀ j, j < 2048 → f j ≤ 8 ∧ g j ≤ 8) :
    Calls Try.prog 26 #[.pointer (some ⟨X, 0, none⟩), .pointer (some ⟨Y, 0, none⟩)] w fun e w' => e = .returned (.int .i64 (mostOf f g 2048)) ∧ Below w.heap.size w w' := by
  have HX : Hid (LostAt w X f) := hX
  have HY : Hid (LostAt w Y g) := hY
  have HF : Hid (∀ j, j < 2048 → f j ≤ 8 ∧ g j ≤ 8) := hf
  clear hX hY hf
  go_enter Try.func26, Try.ntmps26
  go_wp2_with fail
  go_loopw [5, 6] (fun x y wr => ∃ i : Nat, i ≤ 8 ∧ y = .int .i64 i ∧ x = .int .i64 (mostOf f g (i * 256) : Nat) ∧ Below w.heap.size w wr) (fun _ y _ => 8 - (intOf y).toNat)
  case atStart => exact ⟨0, Nat.zero_le _, rfl, rfl, Below.refl _ _⟩
  case round =>
    obtain ⟨i, hi, rfl, rfl, hB⟩ := hrel
    have HB : Hid (Below w.heap.size w wr) := hB
    have hml := mostOf_le f g HF.out (i * 256) (by omega)
    clear hB
    by_cases hlt : i < 8
    · go_wp2_with fail
      go_loopw [5, 7] (fun x y wr => ∃ k : Nat, k ≤ 256 ∧ y = .int .i64 k ∧ x = .int .i64 (mostOf f g (i * 256 + k) : Nat) ∧ Below w.heap.size w wr) (fun _ y _ => 256 - (intOf y).toNat)
      case atStart => exact ⟨0, Nat.zero_le _, rfl, rfl, HB.out⟩
      case round =>
        clear HB
        obtain ⟨k, hk, rfl, rfl, hB⟩ := hrel
        have HB : Hid (Below w.heap.size w wr) := hB
        have hml2 := mostOf_le f g HF.out (i * 256 + k) (by omega)
        by_cases hkt : k < 256
        · have LX : LostAt wr X f := HX.out.of_block (hB.block X HX.out.lt)
          have LY : LostAt wr Y g := HY.out.of_block (hB.block Y HY.out.lt)
          have cx : wr.cell? ⟨X, i * 256 + k, none⟩ = some (.int .i64 (f (i * 256 + k))) := World.rowIs.cell (i := i * 256 + k) LX (by omega)
          have cy : wr.cell? ⟨Y, i * 256 + k, none⟩ = some (.int .i64 (g (i * 256 + k))) := World.rowIs.cell (i := i * 256 + k) LY (by omega)
          have hfg := HF.out (i * 256 + k) (by omega)
          have HS : Hid (mostOf f g (i * 256 + (k + 1)) = mostOf f g (i * 256 + k) + max (f (i * 256 + k)) (g (i * 256 + k))) := mostOf_succ f g (i * 256 + k)
          clear LX LY hB
          generalize mostOf f g (i * 256 + k) = MO at *
          generalize f (i * 256 + k) = fa at *
          generalize g (i * 256 + k) = ga at *
          go_wp2_with fail
          go_quiet (fail)
          have HB2 : Hid (Below w.heap.size w (wr.drewN nq)) := below_drewN HB.out nq
          have em : ((MO : Int) + if fa < ga then (ga : Int) else (fa : Int)) = ((MO + max fa ga : Nat) : Int) := by split <;> omega
          rw [em]
          clear cx cy HB em
          generalize wr.drewN nq = w2 at *
          go_wp2
          go_roundw
          case rel => exact ⟨k + 1, by omega, by go_num, by rw [HS.out], HB2.out⟩
          case measure => simp [intOf]; omega
        · obtain rfl : k = 256 := by omega
          have e : i * 256 + 256 = (i + 1) * 256 := by omega
          rw [e]
          go_wp2
          refine ⟨⟨i + 1, by omega, by go_num, rfl, HB.out⟩, ?_⟩
          simp [intOf]; omega
    · obtain rfl : i = 8 := by omega
      go_wp2
      go_ret
      exact ⟨rfl, HB.out⟩
end Sn
end Go.Proofs.Ytkgnmcekeeannab
/-
  Serves: a trip, another receiver, and both losses, in memory.
-/
namespace Go.Proofs.Ytkgnmcekeeannab
open Go.RowKit Go.Deep
namespace Sn
open Bs
open Ms (txt text M It Tells)
set_option linter.unusedVariables false

section
variable {B : Nat → Prop} {w0 w w1 : World} {C : Nat → Nat} {Q : Nat} {S : Nat → Nat} {v2 v4 v5 : Value} {tk : Nat} {os on bk : List ByteArray} {P R : Nat} {l : LS} {r : Rt} {H : Nat → Prop}
theorem touch_else (h : Touch w0 w (fun b => ¬ B b)) (t : Touch w w1 H) (hH : ∀ b, B b → ¬ H b) : Touch w0 w1 (fun b => ¬ B b) :=
  ⟨t.os.trans h.os, t.tape.trans h.tape, t.output.trans h.output, Nat.le_trans h.size t.size, fun b h1 h2 => by
    by_cases q : B b
    · exact (t.block b (by have := h.size; omega) (hH b q)).trans (h.block b h1 h2)
    · exact absurd q h2⟩
theorem old_paint {k j b : Nat} (h1 : C b = j) (h2 : b < w.heap.size) : paint C k w.heap.size b = j := by rw [paint_old h2]; exact h1
/-- what is not touched stays -/
theorem Tm.keep (k : Nat) (h : Tm B w0 w C Q S v2 tk v4 v5 os on bk P R l r) (t : Touch w w1 H) (hH : ∀ b, C b = 1 ∨ C b = 2 ∨ C b = 5 ∨ B b → ¬ H b) : Tm B w0 w1 (paint C k w.heap.size) Q S v2 tk v4 v5 os on bk P R l r :=
  ⟨h.sl.stay t (fun b hb => hH b (.inl hb)) (fun b => old_paint), h.rl.stay t (fun b hb => hH b (.inr (.inl hb))) (fun b => old_paint), h.wm.stay t (fun b hb => hH b (.inr (.inr (.inl hb)))) (fun b => old_paint), touch_else h.bel t (fun b hb => hH b (.inr (.inr (.inr hb)))), keep_lows h.low h.room _, keep_room h.room t⟩
theorem Tm.keepR {r1 : Rt} (h : Tm B w0 w C Q S v2 tk v4 v5 os on bk P R l r) (t : Touch w w1 H) (hH : ∀ b, C b = 1 ∨ C b = 5 ∨ B b → ¬ H b) (hl : LRcvAt w1 R r1 (grow (fun b => C b = 2) w w1)) : Tm B w0 w1 (paint C 2 w.heap.size) Q S v2 tk v4 v5 os on bk P R l r1 :=
  ⟨h.sl.stay t (fun b hb => hH b (.inl hb)) (fun b => old_paint), hl.mono (fun b hb _ => paint_grow hb), h.wm.stay t (fun b hb => hH b (.inr (.inl hb))) (fun b => old_paint), touch_else h.bel t (fun b hb => hH b (.inr (.inr hb))), keep_lows h.low h.room _, keep_room h.room t⟩
end
structure Sm (B : Nat → Prop) (w0 w : World) (C : Nat → Nat) (Q : Nat) (S : Nat → Nat) (v2 v4 v5 : Value) (P R O X Y : Nat) (os : List ByteArray) (l : LS) (r ro : Rt) (fx fy : Nat → Nat) : Prop where
  tm : Tm B w0 w C Q S v2 r.taken v4 v5 os [] [] P R l r
  ro : LRcvAt w O ro (fun b => C b = 3)
  lx : LostAt w X fx
  ly : LostAt w Y fy
  cx : C X = 4
  cy : C Y = 6
section
variable {B : Nat → Prop} {w0 w w1 : World} {C : Nat → Nat} {Q : Nat} {S : Nat → Nat} {v2 v4 v5 : Value} {os : List ByteArray} {P R O X Y : Nat} {l : LS} {r ro : Rt} {fx fy : Nat → Nat}
theorem Sm.send {l1 : LS} (h : Sm B w0 w C Q S v2 v4 v5 P R O X Y os l r ro fx fy) (t : Touch w w1 (fun b => C b = 1)) (hl : LndAt w1 P l1 (grow (fun b => C b = 1) w w1)) : Sm B w0 w1 (paint C 1 w.heap.size) Q S v2 v4 v5 P R O X Y os l1 r ro fx fy :=
  ⟨h.tm.send t hl, stay_t (by omega) h.ro t, h.lx.of_block (t.block X h.lx.lt (by rw [h.cx]; omega)), h.ly.of_block (t.block Y h.ly.lt (by rw [h.cy]; omega)), old_paint h.cx h.lx.lt, old_paint h.cy h.ly.lt⟩
theorem Sm.above (h : Sm B w0 w C Q S v2 v4 v5 P R O X Y os l r ro fx fy) (hb : Below w.heap.size w w1) : Sm B w0 w1 (paint C 0 w.heap.size) Q S v2 v4 v5 P R O X Y os l r ro fx fy := by
  have t : Touch w w1 (fun _ => False) := Touch.of_below hb
  exact ⟨h.tm.keep 0 t (fun _ _ h => h), h.ro.stay t (fun _ _ h => h) (fun b => old_paint), h.lx.of_block (hb.block X h.lx.lt), h.ly.of_block (hb.block Y h.ly.lt), old_paint h.cx h.lx.lt, old_paint h.cy h.ly.lt⟩
theorem Sm.hearR {r1 : Rt} {f : Nat → Nat} (h : Sm B w0 w C Q S v2 v4 v5 P R O X Y os l r ro fx fy) (t : Touch w w1 (fun b => C b = 2 ∨ b = X)) (hl : LRcvAt w1 R r1 (grow (fun b => C b = 2) w w1)) (hx : LostAt w1 X f) (htk : r1.taken = r.taken) : Sm B w0 w1 (paint C 2 w.heap.size) Q S v2 v4 v5 P R O X Y os l r1 ro f fy := by
  have hcx := h.cx
  have ne : ∀ b j, C b = j → j ≠ 2 → j ≠ 4 → ¬ (C b = 2 ∨ b = X) := fun b j h1 h2 h3 h4 => by
    rcases h4 with e | e
    · omega
    · subst e; omega
  refine ⟨?_, h.ro.stay t (fun b hb => ne b 3 hb (by omega) (by omega)) (fun b => old_paint), hx, h.ly.of_block (t.block Y h.ly.lt (ne Y 6 h.cy (by omega) (by omega))), old_paint h.cx h.lx.lt, old_paint h.cy h.ly.lt⟩
  rw [htk]
  refine h.tm.keepR t (fun b hb => ?_) hl
  rcases hb with q | q | q
  · exact ne b 1 q (by omega) (by omega)
  · exact ne b 5 q (by omega) (by omega)
  · exact ne b 0 (h.tm.low b q) (by omega) (by omega)
theorem Sm.hearO {r1 : Rt} {f : Nat → Nat} (h : Sm B w0 w C Q S v2 v4 v5 P R O X Y os l r ro fx fy) (t : Touch w w1 (fun b => C b = 3 ∨ b = Y)) (hl : LRcvAt w1 O r1 (grow (fun b => C b = 3) w w1)) (hy : LostAt w1 Y f) : Sm B w0 w1 (paint C 3 w.heap.size) Q S v2 v4 v5 P R O X Y os l r r1 fx f := by
  have hcy := h.cy
  have ne : ∀ b j, C b = j → j ≠ 3 → j ≠ 6 → ¬ (C b = 3 ∨ b = Y) := fun b j h1 h2 h3 h4 => by
    rcases h4 with e | e
    · omega
    · subst e; omega
  refine ⟨h.tm.keep 3 t (fun b hb => ?_), hl.mono (fun b hb _ => paint_grow hb), h.lx.of_block (t.block X h.lx.lt (ne X 4 h.cx (by omega) (by omega))), hy, old_paint h.cx h.lx.lt, old_paint h.cy h.ly.lt⟩
  rcases hb with q | q | q | q
  · exact ne b 1 q (by omega) (by omega)
  · exact ne b 2 q (by omega) (by omega)
  · exact ne b 5 q (by omega) (by omega)
  · exact ne b 0 (h.tm.low b q) (by omega) (by omega)
end
def SJ (B : Nat → Prop) (w0 w : World) (Q P R O X Y : Nat) (s : St) (r ro : Rt) (fx fy : Nat → Nat) (c : Nat) : Prop :=
  ∃ C S v2 v4 v5 l, Sm B w0 w C Q S v2 v4 v5 P R O X Y s.objs l r ro fx fy ∧ (∃ T, Rel s l T) ∧ TI s r [] [] c ∧ TI s ro [] [] c
theorem SJ.above {B : Nat → Prop} {w0 w w1 : World} {Q P R O X Y : Nat} {s : St} {r ro : Rt} {fx fy : Nat → Nat} {c : Nat} (h : SJ B w0 w Q P R O X Y s r ro fx fy c) (hb : Below w.heap.size w w1) : SJ B w0 w1 Q P R O X Y s r ro fx fy c := by
  obtain ⟨C, S, v2, v4, v5, l, m, hr, h1, h2⟩ := h
  exact ⟨_, S, v2, v4, v5, l, m.above hb, hr, h1, h2⟩
/-- what does not concern the other receiver and the losses -/
theorem SJ.frame {B : Nat → Prop} {w0 w : World} {Q P R O X Y : Nat} {s : St} {r ro : Rt} {fx fy : Nat → Nat} {c : Nat} (h : SJ B w0 w Q P R O X Y s r ro fx fy c) :
    ∃ D, TJ D w w Q P R s r [] [] c ∧ ∀ w' s' r' c', TJ D w w' Q P R s' r' [] [] c' → TI s' ro [] [] c' → SJ B w0 w' Q P R O X Y s' r' ro fx fy c' := by
  obtain ⟨C, S, v2, v4, v5, l, m, hr, h1, h2⟩ := h
  refine ⟨fun b => b < w.heap.size ∧ C b ≠ 1 ∧ C b ≠ 2 ∧ C b ≠ 5, ⟨fun b => if C b = 1 ∨ C b = 2 ∨ C b = 5 then C b else 0, S, v2, v4, v5, l, ⟨?_, ?_, ?_, Touch.refl _ _, ?_, ?_⟩, hr, h1⟩, ?_⟩
  · refine m.tm.sl.mono (fun b hb _ => ?_)
    show (if C b = 1 ∨ C b = 2 ∨ C b = 5 then C b else 0) = 1
    rw [if_pos (.inl hb)]; exact hb
  · refine m.tm.rl.mono (fun b hb _ => ?_)
    show (if C b = 1 ∨ C b = 2 ∨ C b = 5 then C b else 0) = 2
    rw [if_pos (.inr (.inl hb))]; exact hb
  · refine m.tm.wm.stay (Touch.refl _ (fun _ => False)) (fun _ _ h => h) (fun b hb _ => ?_)
    show (if C b = 1 ∨ C b = 2 ∨ C b = 5 then C b else 0) = 5
    rw [if_pos (.inr (.inr hb))]; exact hb
  · intro b ⟨_, q1, q2, q3⟩
    show (if C b = 1 ∨ C b = 2 ∨ C b = 5 then C b else 0) = 0
    rw [if_neg (by omega)]
  · intro b hb; exact hb.1
  · rintro w' s' r' c' ⟨C2, S2, u2, u4, u5, l2, m2, hr2, h12⟩ h22
    have hsz := m2.bel.size
    have keep : ∀ b, b < w.heap.size → C b ≠ 1 → C b ≠ 2 → C b ≠ 5 → w'.heap[b]? = w.heap[b]? := fun b q q1 q2 q3 => m2.bel.block b q (fun hn => hn ⟨q, q1, q2, q3⟩)
    have zero : ∀ b, b < w.heap.size → C b ≠ 1 → C b ≠ 2 → C b ≠ 5 → C2 b = 0 := fun b q q1 q2 q3 => m2.low b ⟨q, q1, q2, q3⟩
    have hX := m.lx.lt
    have hY := m.ly.lt
    have cX := m.cx
    have cY := m.cy
    have base : ∀ j, j = 1 ∨ j = 2 ∨ j = 5 → ∀ b, C2 b = j → (if b < w.heap.size ∧ (C b = 3 ∨ C b = 4 ∨ C b = 6) then C b else C2 b) = j := fun j hj b hb => by
      rw [if_neg]
      · exact hb
      · rintro ⟨q1, q2⟩
        have := zero b q1 (by omega) (by omega) (by omega)
        omega
    refine ⟨fun b => if b < w.heap.size ∧ (C b = 3 ∨ C b = 4 ∨ C b = 6) then C b else C2 b, S2, u2, u4, u5, l2, ⟨⟨?_, ?_, ?_, ?_, ?_, ?_⟩, ?_, ?_, ?_, ?_, ?_⟩, hr2, h12, h22⟩
    · exact m2.sl.mono (fun b hb _ => base 1 (by omega) b hb)
    · exact m2.rl.mono (fun b hb _ => base 2 (by omega) b hb)
    · exact m2.wm.stay (Touch.refl _ (fun _ => False)) (fun _ _ h => h) (fun b hb _ => base 5 (by omega) b hb)
    · refine touch_else m.tm.bel m2.bel (fun b hb hn => hn ?_)
      have := m.tm.low b hb
      exact ⟨m.tm.room b hb, by omega, by omega, by omega⟩
    · intro b hb
      have q := m.tm.low b hb
      have hl := m.tm.room b hb
      show (if b < w.heap.size ∧ (C b = 3 ∨ C b = 4 ∨ C b = 6) then C b else C2 b) = 0
      rw [if_neg (by omega)]
      exact zero b hl (by omega) (by omega) (by omega)
    · intro b hb; exact Nat.lt_of_lt_of_le (m.tm.room b hb) hsz
    · have t3 : Touch w w' (fun b => ¬ (b < w.heap.size ∧ C b = 3)) := ⟨m2.bel.os, m2.bel.tape, m2.bel.output, m2.bel.size, fun b hb hn => by
        by_cases q : b < w.heap.size ∧ C b = 3
        · exact keep b hb (by omega) (by omega) (by omega)
        · exact absurd q hn⟩
      have h3 : LRcvAt w O ro (fun b => b < w.heap.size ∧ C b = 3) := m.ro.mono (fun b hb hl => ⟨hl, hb⟩)
      refine h3.stay t3 (fun b hb hn => hn hb) (fun b hb _ => ?_)
      show (if b < w.heap.size ∧ (C b = 3 ∨ C b = 4 ∨ C b = 6) then C b else C2 b) = 3
      rw [if_pos ⟨hb.1, .inl hb.2⟩]; exact hb.2
    · exact m.lx.of_block (keep X hX (by omega) (by omega) (by omega))
    · exact m.ly.of_block (keep Y hY (by omega) (by omega) (by omega))
    · show (if X < w.heap.size ∧ (C X = 3 ∨ C X = 4 ∨ C X = 6) then C X else C2 X) = 4
      rw [if_pos ⟨hX, by omega⟩]; exact cX
    · show (if Y < w.heap.size ∧ (C Y = 3 ∨ C Y = 4 ∨ C Y = 6) then C Y else C2 Y) = 6
      rw [if_pos ⟨hY, by omega⟩]; exact cY
end Sn
end Go.Proofs.Ytkgnmcekeeannab
/-
  Serves: a receiver's request comes to the sender.
-/
namespace Go.Proofs.Ytkgnmcekeeannab
open Go.RowKit Go.Deep
namespace Sn
open Bs
open Ms (txt text M It Tells)
set_option linter.unusedVariables false

theorem asked_nil (s : St) : s.asked [] = s := rfl
set_option maxRecDepth 100000 in
set_option maxHeartbeats 2000000 in
theorem tripAsks {s : St} {rr : Rt} {l : LS} {T : Nat → Nat → Nat} {on bk : List ByteArray} {c : Nat} (Q P p : Nat) (F G : Nat → Prop) (w : World) (hI : TI s rr on bk c) (hc : c ≤ 4611686018424387904) (hT : Rel s l T) (hQ : w.cell? ⟨Q, 0, none⟩ = some (tpt P)) (hl : LndAt w P l F) (hA : LRcvAt w p rr G) :
    Calls Try.prog 24 #[.pointer (some ⟨Q, 0, none⟩), .pointer (some ⟨p, 0, none⟩)] w fun e w' => e = .returned (.bool true) ∧ ∃ l', (∃ T, Rel (s.asked (rr.items.take 8)) l' T) ∧ LndAt w' P l' (grow F w w') ∧ Touch w w' F := by
  have HRQ := rRequestR rr p G w (hI.rok.ok (by omega)) hI.tw hA
  have HRE : Hid (rr.request = ⟨#[]⟩ ↔ rr.items = []) := request_empty
  obtain ⟨TQ, hTQ⟩ : ∃ TQ, TQ = rr.request := ⟨_, rfl⟩
  have HTQ : Hid (TQ = rr.request) := hTQ
  rw [← hTQ] at HRQ
  have hql : Q < w.heap.size := cell_lt hQ
  by_cases hit : rr.items = []
  · have hTe : TQ.toList.isEmpty = true := by rw [Ms.size_isEmpty, hTQ, HRE.out.2 hit]; rfl
    have HP : Hid (∀ w1, Below w.heap.size w w1 → ∃ l', (∃ T, Rel (s.asked (rr.items.take 8)) l' T) ∧ LndAt w1 P l' (grow F w w1) ∧ Touch w w1 F) := fun w1 hb => by
      refine ⟨l, ?_, hl.stay (Touch.of_below (F := fun _ => False) hb) (fun _ _ h => h) (fun b hb _ => .inl hb), Touch.of_below hb⟩
      rw [hit]
      exact ⟨T, hT⟩
    clear hI hT hl hA hQ hit hTQ
    go_enter Try.func24, Try.ntmps24
    go_wp2_with fail
    refine HRQ.mono ?_
    rintro e w1 ⟨rfl, hb⟩
    have HP1 := HP.out w1 hb
    clear HRQ HP hb
    go_wp2
    go_ret
    exact ⟨rfl, HP1⟩
  · have hTe : TQ.toList.isEmpty = false := by
      have q : ¬ TQ = ⟨#[]⟩ := fun e => hit (HRE.out.1 (by rw [← hTQ]; exact e))
      rw [Ms.size_isEmpty]
      refine decide_eq_false (fun e => q ?_)
      apply ByteArray.ext
      exact Array.eq_empty_of_size_eq_zero e
    obtain ⟨mq, q1, q2, q3, q4⟩ : ∃ m, Ms.ok m ∧ m.kind = 2 ∧ m.items = rr.items.take 8 ∧ TQ = txt (text m) := by
      refine ⟨reqM (rr.items.take 8), ?_, rfl, rfl, ?_⟩
      · refine .inr (.inl ⟨rfl, ⟨rfl, rfl, rfl, rfl, rfl⟩, rfl, ?_, ?_, fun t ht => items_ok rr (hI.rok.ok (by omega)) t (List.mem_of_mem_take ht)⟩)
        · show 1 ≤ (rr.items.take 8).length
          have := List.length_pos_iff.2 hit
          rw [List.length_take]; omega
        · show (rr.items.take 8).length ≤ 8
          rw [List.length_take]; omega
      · rw [hTQ]; unfold Rt.request; rw [if_neg hit]
    have hzq : TQ.size ≤ 28 := by rw [q4, Ms.txt_size]; exact (Ms.text_len q1).2
    have hTL : Tells TQ mq := by rw [q4]; exact tells_text q1
    have HOK2 := hT.ok2 hI.sok
    have hits : ∀ t ∈ mq.items, Ms.itOK t := by
      rcases q1 with h | h | h
      · rw [q2] at h; exact absurd h.1 (by decide)
      · exact h.2.2.2.2.2
      · rw [q2] at h; exact absurd h.1 (by decide)
    have hrel : Rel (s.asked mq.items) (l.anss mq.items) T := hT.dues hI.sok mq.items hits
    have HH : ∀ w1, Below w.heap.size w w1 → Calls Try.prog 14 #[.pointer (some ⟨P, 0, none⟩), .string TQ] w1 fun e w' => e = .returned (.int .i64 0) ∧ Hid (∃ l', (∃ T, Rel (s.asked (rr.items.take 8)) l' T) ∧ LndAt w' P l' (grow F w w') ∧ Touch w w' F) := fun w1 hb => by
      have hl1 : LndAt w1 P l F := hl.stay (Touch.of_below (F := fun _ => False) hb) (fun _ _ h => h) (fun b hb _ => hb)
      obtain ⟨la, lc, LD, hLI⟩ := hl1
      refine (rHear l TQ P F la lc LD w1 HOK2.base HOK2.ow8 (by omega) hLI).mono ?_
      rintro e w2 ⟨l2, ho, hl2, t2⟩
      rcases ho with ⟨m', h5, h6, rfl, rfl⟩ | ⟨h5, _, _⟩
      · have em : m' = mq := by rw [← Ms.tells_lan h5, Ms.tells_lan hTL]
        subst em
        refine ⟨rfl, l.anss m'.items, ⟨T, ?_⟩, LndAt.mono ⟨la, lc, LD, hl2⟩ (fun b hb _ => .inl hb), (Touch.of_below hb).trans t2⟩
        rw [← q3]; exact hrel
      · exact absurd q2 (h5 mq hTL)
    have HCQ : Hid (∀ w1, Below w.heap.size w w1 → w1.cell? ⟨Q, 0, none⟩ = some (tpt P)) := fun w1 hb => (hb.cell (p := ⟨Q, 0, none⟩) hql).trans hQ
    clear hI hT hl hA hit hTQ q1 q2 q3 q4 hTL HOK2 hits hrel hQ
    go_enter Try.func24, Try.ntmps24
    go_wp2_with fail
    refine HRQ.mono ?_
    rintro e w1 ⟨rfl, hb⟩
    have H1 := HH w1 hb
    have x0 := HCQ.out w1 hb
    clear HRQ HH hb HCQ
    go_wp2_with fail
    refine H1.mono ?_
    rintro e w2 ⟨rfl, ho⟩
    clear H1 x0
    go_wp2
    go_ret
    exact ⟨rfl, ho.out⟩
end Sn
end Go.Proofs.Ytkgnmcekeeannab
/-
  Serves: what the sender sends comes to both receivers, up to an end.
-/
namespace Go.Proofs.Ytkgnmcekeeannab
open Go.RowKit Go.Deep
namespace Sn
open Bs
open Ms (txt text M It Tells)
set_option linter.unusedVariables false

section
variable {B : Nat → Prop} {w0 w : World} {Q P R O X Y : Nat} {s : St} {r ro : Rt} {fx fy : Nat → Nat} {c : Nat}
set_option maxRecDepth 100000 in
set_option maxHeartbeats 4000000 in
theorem tripSecond (most : Nat) (hm : s.left ≤ most) (hmo : most ≤ 1048576) (hc : c ≤ 4611686018424387904) (h : SJ B w0 w Q P R O X Y s r ro fx fy c) :
    Calls Try.prog 25 #[.pointer (some ⟨Q, 0, none⟩), .pointer (some ⟨O, 0, none⟩), .int .i64 most] w fun e w' => e = .returned (.int .i64 s.left) ∧ SJ B w0 w' Q P R O X Y (sendN (s.left + 1) s r).1 (sendN (s.left + 1) s r).2 (sendN (s.left + 1) s ro).2 fx fy (c + 2 * (s.left + 1)) := by
  have HJ : Hid (SJ B w0 w Q P R O X Y s r ro fx fy c) := h
  clear h
  go_enter Try.func25, Try.ntmps25
  go_wp2_with fail
  go_loopw [7] (fun y wr => ∃ k : Nat, k ≤ s.left ∧ y = .int .i64 k ∧ (sendN k s r).1.left + k = s.left ∧ SJ B w0 wr Q P R O X Y (sendN k s r).1 (sendN k s r).2 (sendN k s ro).2 fx fy (c + 2 * k)) (fun y _ => s.left + 1 - (intOf y).toNat)
  case atStart => exact ⟨0, Nat.zero_le _, rfl, rfl, HJ.out⟩
  case round =>
    clear HJ
    obtain ⟨k, hk, rfl, hlk, hJ⟩ := hrel
    have HSN : Hid (sendN (k + 1) s r = ((nxt (sendN k s r).1).1, ((sendN k s r).2.hear (nxtM (sendN k s r).1)).1)) := sendN_snoc k s r
    have HSO : Hid ((sendN (k + 1) s ro).2 = ((sendN k s ro).2.hear (nxtM (sendN k s r).1)).1) := by
      unfold Hid
      rw [sendN_snoc k s ro, sendN_one k s ro r]
    generalize (sendN k s r).1 = sk at *
    generalize (sendN k s r).2 = rk at *
    generalize (sendN k s ro).2 = ok at *
    obtain ⟨C, S, v2, v4, v5, l, hM, ⟨T, hT⟩, hI, hIo⟩ := hJ
    have HM : Hid (Sm B w0 wr C Q S v2 v4 v5 P R O X Y sk.objs l rk ok fx fy) := hM
    have HI : Hid (TI sk rk [] [] (c + 2 * k)) := hI
    have HT : Hid (Rel sk l T) := hT
    obtain ⟨d0, d1, d2, d3, d4, d5⟩ := hM.tm.cells
    obtain ⟨la, lc, LD, hLI⟩ := hM.tm.sl
    have HEL := rNext l P (fun b => C b = 1) la lc LD wr (hT.ok2 hI.sok) hLI
    have hho := nxtM_honest hI.sok
    have hok := hI.ok hho
    have hlen := Ms.text_len hok
    obtain ⟨a, rest, htf, hk3, hk1⟩ := text_first hok
    obtain ⟨TX, hTX⟩ : ∃ TX, TX = (nxt sk).2 := ⟨_, rfl⟩
    have eTX : TX = txt (text (nxtM sk)) := by rw [hTX, nxt_M]
    have hTz : TX.size ≤ 28 := by rw [eTX, Ms.txt_size]; omega
    have HTX : Hid (TX = (nxt sk).2) := hTX
    have HTL : Hid (Tells TX (nxtM sk)) := by rw [eTX]; exact tells_text hok
    have HEN := fun W => isEnd_any TX a rest W (by rw [eTX, htf]) hTz
    have HI1 : TI (nxt sk).1 rk [] [] (c + 2 * k + 1) := (hI.nxt).less (fun t ht => by cases ht) (fun t ht => ht)
    have HI2 : TI (nxt sk).1 ok [] [] (c + 2 * k + 1) := (hIo.nxt).less (fun t ht => by cases ht) (fun t ht => ht)
    have hho1 : Honest (nxt sk).1.n (nxt sk).1.objs (nxtM sk) := by rw [(nxt_same sk).1, (nxt_same sk).2]; exact hho
    have HH2 := HI1.hear hho1 (by omega)
    have HO2 := HI2.hear hho1 (by omega)
    have HH0 : Hid ((rk.hear (nxtM sk)).2 = 0) := HH2.1
    have HO0 : Hid ((ok.hear (nxtM sk)).2 = 0) := HO2.1
    have HTI : Hid (TI (nxt sk).1 (rk.hear (nxtM sk)).1 [] [] (c + 2 * (k + 1))) := HH2.2
    have HTO : Hid (TI (nxt sk).1 (ok.hear (nxtM sk)).1 [] [] (c + 2 * (k + 1))) := HO2.2
    have HRO : Hid (ROk rk) := hI.rok.ok (by omega)
    have HOO : Hid (ROk ok) := hIo.rok.ok (by omega)
    have HOB : Hid ((nxt sk).1.objs = sk.objs) := (nxt_same sk).2
    have HLF : Hid (0 < sk.left → (nxt sk).1.left + 1 = sk.left ∧ (nxtM sk).kind = 1) := fun q => nxt_left hI.sok q
    have HL0 : Hid (sk.left = 0 → nxtM sk = endM sk.objs.length ∧ (nxt sk).1 = sk) := fun q => nxtM_end hI.sok q
    have HA : Hid ((nxtM sk).kind = 3 → a = 69) := hk3
    have HA1 : Hid ((nxtM sk).kind = 1 → a = 68) := hk1
    have hkm : k ≤ most := by omega
    clear hM hT hI hIo hLI hho hho1 hok hlen htf hTX eTX HI1 HI2 HH2 HO2 hk3 hk1
    go_wp2_with fail
    refine HEL.mono ?_
    rintro e w2 ⟨l1, ho, hl2, t2⟩
    obtain ⟨rfl, T', hT'⟩ := HT.out.nxt HI.out.sok ho
    have HT' : Hid (∃ T, Rel (nxt sk).1 l1 T) := ⟨T', hT'⟩
    have m1 := HM.out.send t2 (LndAt.mono ⟨la, lc, LD, hl2⟩ (fun b hb _ => .inl hb))
    obtain ⟨x0, x1, x2, x3, x4, x5⟩ := m1.tm.cells
    have HM1 : Hid (Sm B w0 w2 (paint C 1 wr.heap.size) Q S v2 v4 v5 P R O X Y sk.objs l1 rk ok fx fy) := m1
    have HH := rHearR rk TX R (fun b => paint C 1 wr.heap.size b = 2) w2 (by omega) HRO.out m1.tm.rl
    clear HEL hl2 t2 HM d0 d1 d2 d3 d4 d5 ho hT' m1
    generalize paint C 1 wr.heap.size = C1 at *
    rw [← HTX.out]
    go_wp2_with fail
    refine HH.mono ?_
    rintro e w3 ⟨ho, t3⟩
    rcases ho with ⟨m', h5, rfl, hl3⟩ | ⟨h5, _, _⟩
    · have em : m' = nxtM sk := by rw [← Ms.tells_lan h5, Ms.tells_lan HTL.out]
      subst em
      rw [HH0.out]
      have m2 := HM1.out.hearR (Touch.mono t3 (fun b q => .inl q)) hl3 (HM1.out.lx.of_block (t3.block X HM1.out.lx.lt (by rw [HM1.out.cx]; omega))) (hear_n rk (nxtM sk)).2
      have HM2 : Hid (Sm B w0 w3 (paint C1 2 w2.heap.size) Q S v2 v4 v5 P R O X Y sk.objs l1 (rk.hear (nxtM sk)).1 ok fx fy) := m2
      have HHO := rHearR ok TX O (fun b => paint C1 2 w2.heap.size b = 3) w3 (by omega) HOO.out m2.ro
      clear HH hl3 t3 h5 HM1 x0 x1 x2 x3 x4 x5 m2
      generalize paint C1 2 w2.heap.size = C2 at *
      go_wp2_with fail
      refine HHO.mono ?_
      rintro e w4 ⟨ho, t4⟩
      rcases ho with ⟨m', h5, rfl, hl4⟩ | ⟨h5, _, _⟩
      · have em : m' = nxtM sk := by rw [← Ms.tells_lan h5, Ms.tells_lan HTL.out]
        subst em
        rw [HO0.out]
        have HF : Hid (SJ B w0 w4 Q P R O X Y (nxt sk).1 (rk.hear (nxtM sk)).1 (ok.hear (nxtM sk)).1 fx fy (c + 2 * (k + 1))) := by
          have m3 := HM2.out.hearO (Touch.mono t4 (fun b q => .inl q)) hl4 (HM2.out.ly.of_block (t4.block Y HM2.out.ly.lt (by rw [HM2.out.cy]; omega)))
          rw [← HOB.out] at m3
          exact ⟨_, _, _, _, _, _, m3, HT'.out, HTI.out, HTO.out⟩
        clear HHO hl4 t4 h5 HM2
        by_cases h0 : 0 < sk.left
        · obtain ⟨q1, q2⟩ := HLF.out h0
          have ha : (a == 69) = false := by rw [HA1.out q2]; rfl
          rw [ha] at HEN
          clear ha q2
          go_wp2_with fail
          refine (HEN w4).mono ?_
          rintro e w5 ⟨rfl, rfl⟩
          clear HEN
          go_wp2
          go_roundw
          case rel =>
            refine ⟨k + 1, by omega, by go_num, ?_, ?_⟩
            · rw [HSN.out]; show (nxt sk).1.left + (k + 1) = s.left; omega
            · rw [HSN.out, HSO.out]; exact HF.out
          case measure => simp [intOf]; omega
        · have h00 : sk.left = 0 := by omega
          have ha : (a == 69) = true := by rw [HA.out (by rw [(HL0.out h00).1]; rfl)]; rfl
          rw [ha] at HEN
          clear ha
          go_wp2_with fail
          refine (HEN w4).mono ?_
          rintro e w5 ⟨rfl, rfl⟩
          clear HEN
          have hkl : k = s.left := by omega
          have HK : Hid (k = s.left) := hkl
          clear hkl
          go_wp2
          go_ret
          refine ⟨by rw [← HK.out]; rfl, ?_⟩
          rw [← HK.out, HSN.out, HSO.out]
          exact HF.out
      · exact absurd HTL.out (h5 _)
    · exact absurd HTL.out (h5 _)
end
end Sn
end Go.Proofs.Ytkgnmcekeeannab
