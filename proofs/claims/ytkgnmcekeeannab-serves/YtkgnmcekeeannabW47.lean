import Derived.Test.YtkgnmcekeeannabW46
/-
  A trip begins.
-/
namespace Go.Proofs.Ytkgnmcekeeannab
open Go.RowKit Go.Deep
namespace Sn
open Bs
open Ms (txt text M It Tells)
set_option linter.unusedVariables false

def BegunOut (a b c : Int) (e : Ending) (w w' : World) : Prop :=
  (rightE a b c ≠ 0 ∧ e = .returned (.tuple #[.pointer none, .bool true]) ∧ Below w.heap.size w w') ∨
  (∃ (n : Nm) (Q P R : Nat), n.ok ∧ a = n.size ∧ b = n.block ∧ c = n.spare ∧ e = .returned (.tuple #[.pointer (some ⟨Q, 0, none⟩), .bool true]) ∧ ∃ B w0, Below w.heap.size w w0 ∧ w.heap.size ≤ B ∧ TJ (fun x => x < B) w0 w' Q P R (St.fresh n) (Rt.fresh n) [] [] 0)
theorem below_fr {B : Nat} {w w' : World} (h : Below B w w') : Touch w w' (fun x => ¬ x < B) := ⟨h.os, h.tape, h.output, h.size, fun b _ hb => by
  by_cases q : b < B
  · exact h.block b q
  · exact absurd q hb⟩
theorem Pr.trip {B : Nat} {w0 w : World} {C : Nat → Nat} {P R : Nat} {n : Nm} (h : Pr B w0 w C P R (LS.fresh n) (Rt.fresh n)) (hn : n.ok) :
    TJ (fun x => x < B) w0 (w.alloc (.cells #[.pointer (some ⟨P, 0, none⟩), .pointer (some ⟨R, 0, none⟩), .slice none 0 0, .int .i64 0, .slice none 0 0, .slice none 0 0] 47)) w.heap.size P R (St.fresh n) (Rt.fresh n) [] [] 0 := by
  have hb : Below w.heap.size w (w.alloc (.cells #[.pointer (some ⟨P, 0, none⟩), .pointer (some ⟨R, 0, none⟩), .slice none 0 0, .int .i64 0, .slice none 0 0, .slice none 0 0] 47)) := (Below.refl _ _).alloc (Nat.le_refl _) _
  have t : ∀ F : Nat → Prop, Touch w (w.alloc (.cells #[.pointer (some ⟨P, 0, none⟩), .pointer (some ⟨R, 0, none⟩), .slice none 0 0, .int .i64 0, .slice none 0 0, .slice none 0 0] 47)) F := fun F => Touch.of_below hb
  have old : ∀ j b, C b = j → b < w.heap.size → paint C 5 w.heap.size b = j := fun j b h1 h2 => by rw [paint_old h2]; exact h1
  have hrow := World.rowIs_alloc w #[.pointer (some ⟨P, 0, none⟩), .pointer (some ⟨R, 0, none⟩), .slice none 0 0, .int .i64 0, .slice none 0 0, .slice none 0 0] 47 (tV P R (.slice none 0 0) 0 (.slice none 0 0) (.slice none 0 0)) (fun i hi => by
    match i, hi with
    | 0, _ => rfl
    | 1, _ => rfl
    | 2, _ => rfl
    | 3, _ => rfl
    | 4, _ => rfl
    | 5, _ => rfl)
  refine ⟨paint C 5 w.heap.size, fun _ => 6, .slice none 0 0, .slice none 0 0, .slice none 0 0, LS.fresh n, ⟨h.sl.stay (t (fun _ => False)) (fun _ _ h => h) (old _), h.rl.stay (t (fun _ => False)) (fun _ _ h => h) (old _), ⟨hrow, ?_, paint_new (Nat.le_refl _), rfl, ?_⟩, below_fr (h.bel.trans (hb.mono h.room)), keep_low h.low h.room _, fun b (hb : b < B) => by have := h.room; simp; omega⟩, ⟨_, Rel.new n⟩, TI.new hn⟩
  · exact lst_all (World.ownsRow_nil _ _ _ _) (World.ownsRow_nil _ _ _ _) (World.ownsRow_nil _ _ _ _)
  · exact lst_all (fun x hx => by simp [tV, Value.ownBlock] at hx) (fun x hx => by simp [tV, Value.ownBlock] at hx) (fun x hx => by simp [tV, Value.ownBlock] at hx)
theorem makeBadS (a b c : Int) (h : rightE a b c ≠ 0) (W : World) : Calls Try.prog 33 #[.int .i64 a, .int .i64 b, .int .i64 c] W fun e w' => e = .returned (.tuple #[.pointer none, .int .i64 (rightE a b c)]) ∧ Below W.heap.size W w' := by
  refine (lanNewSender a b c W).mono ?_
  rintro e w' ⟨ho, hb⟩
  rcases ho with ⟨_, rfl⟩ | ⟨m, P, hm, rfl, rfl, rfl, _⟩
  · exact ⟨rfl, hb⟩
  · exact absurd (rightOk hm) h
theorem makeBadR (a b c : Int) (h : rightE a b c ≠ 0) (W : World) : Calls Try.prog 18 #[.int .i64 a, .int .i64 b, .int .i64 c] W fun e w' => e = .returned (.tuple #[.pointer none, .int .i64 (rightE a b c)]) ∧ Below W.heap.size W w' := by
  refine (lanNewReceiver a b c W).mono ?_
  rintro e w' ⟨ho, hb⟩
  rcases ho with ⟨_, rfl⟩ | ⟨m, P, hm, rfl, rfl, rfl, _⟩
  · exact ⟨rfl, hb⟩
  · exact absurd (rightOk hm) h
set_option maxRecDepth 100000 in
set_option maxHeartbeats 4000000 in
theorem tripBegun (a b c : Int) (w : World) : Calls Try.prog 9 #[.agg #[.int .i64 a, .int .i64 b, .int .i64 c]] w fun e w' => BegunOut a b c e w w' := by
  have HAW := fun W => tripAwake W
  have HFI := fun W => tripFits a b c W
  have B0 : Below w.heap.size w (w.alloc (.cells #[.int .i64 a, .int .i64 b, .int .i64 c] 33)) := (Below.refl _ _).alloc (Nat.le_refl _) _
  have R0 : (w.alloc (.cells #[.int .i64 a, .int .i64 b, .int .i64 c] 33)).rowIs w.heap.size 33 3 (fun j => ([.int .i64 a, .int .i64 b, .int .i64 c] : List Value).getD j undef) := World.rowIs_alloc w #[.int .i64 a, .int .i64 b, .int .i64 c] 33 _ (fun i hi => by
    match i, hi with
    | 0, _ => rfl
    | 1, _ => rfl
    | 2, _ => rfl)
  obtain ⟨W, hW⟩ : ∃ W, W = w.alloc (.cells #[.int .i64 a, .int .i64 b, .int .i64 c] 33) := ⟨_, rfl⟩
  obtain ⟨N, hN⟩ : ∃ N, N = w.heap.size := ⟨_, rfl⟩
  rw [← hW] at B0 R0
  rw [← hN] at R0
  have HB0 : Hid (Below w.heap.size w W) := B0
  have HR0 : Hid (W.rowIs N 33 3 (fun j => ([.int .i64 a, .int .i64 b, .int .i64 c] : List Value).getD j undef)) := R0
  have hNW : N < W.heap.size := R0.lt
  have HCE : Hid (∀ W', Below W.heap.size W W' → W'.cell? ⟨N, 0, none⟩ = some (.int .i64 a) ∧ W'.cell? ⟨N, 1, none⟩ = some (.int .i64 b) ∧ W'.cell? ⟨N, 2, none⟩ = some (.int .i64 c)) := fun W' hb => by
    have q := HR0.out.of_block (hb.block N hNW)
    exact ⟨q.cell (i := 0) (by decide), q.cell (i := 1) (by decide), q.cell (i := 2) (by decide)⟩
  clear B0 R0
  go_enter Try.func9, Try.ntmps9
  go_wp2_with fail
  simp only [← hW, ← hN]
  clear hN hW
  refine (HAW _).mono ?_
  rintro e w1 ⟨rfl, hb1⟩
  have HB1 : Hid (Below W.heap.size W w1) := hb1
  obtain ⟨x0, x1, x2⟩ := HCE.out w1 hb1
  clear HAW hb1
  go_wp2_with fail
  refine (HFI _).mono ?_
  rintro e w2 ⟨rfl, hb2⟩
  have hb2' : Below W.heap.size W w2 := HB1.out.trans (hb2.mono HB1.out.size)
  have HB2 : Hid (Below W.heap.size W w2) := hb2'
  clear HFI hb2 hb2' HB1 x0 x1 x2
  by_cases hE : rightE a b c = 0
  · obtain ⟨n, hn, e1, e2, e3⟩ := rightE_zero a b c hE
    have hfit : fitsB a b c = true := by unfold fitsB; exact decide_eq_true hE
    rw [hfit]
    have HEQ : Hid (a = n.size ∧ b = n.block ∧ c = n.spare) := ⟨e1, e2, e3⟩
    have HNK : Hid n.ok := hn
    have HCN : Hid (∀ W', Below W.heap.size W W' → W'.cell? ⟨N, 0, none⟩ = some (.int .i64 n.size) ∧ W'.cell? ⟨N, 1, none⟩ = some (.int .i64 n.block) ∧ W'.cell? ⟨N, 2, none⟩ = some (.int .i64 n.spare)) := fun W' hb => by
      have q := HCE.out W' hb
      rw [e1, e2, e3] at q
      exact q
    obtain ⟨x0, x1, x2⟩ := HCN.out w2 HB2.out
    have HL : Calls Try.prog 33 #[.int .i64 n.size, .int .i64 n.block, .int .i64 n.spare] w2 fun e w' => ∃ P, e = .returned (.tuple #[.pointer (some ⟨P, 0, none⟩), .int .i64 0]) ∧ w'.cell? ⟨N, 0, none⟩ = some (.int .i64 n.size) ∧ w'.cell? ⟨N, 1, none⟩ = some (.int .i64 n.block) ∧ w'.cell? ⟨N, 2, none⟩ = some (.int .i64 n.spare) ∧ Hid (LndAt w' P (LS.fresh n) (fun x => w2.heap.size ≤ x ∧ x < w'.heap.size) ∧ Below w2.heap.size w2 w') := by
      refine (makeS n HNK.out w2).mono ?_
      rintro e w' ⟨P, rfl, hl, hb⟩
      obtain ⟨q0, q1, q2⟩ := HCN.out w' (HB2.out.trans (hb.mono HB2.out.size))
      exact ⟨P, rfl, q0, q1, q2, hl, hb⟩
    clear hE hfit e1 e2 e3 hn
    go_wp2_with fail
    refine HL.mono ?_
    rintro e w3 ⟨P, rfl, y0, y1, y2, HS1⟩
    clear HL x0 x1 x2
    have HB3 : Hid (Below W.heap.size W w3) := HB2.out.trans (HS1.out.2.mono HB2.out.size)
    have HR : Calls Try.prog 18 #[.int .i64 n.size, .int .i64 n.block, .int .i64 n.spare] w3 fun e w' => ∃ R, e = .returned (.tuple #[.pointer (some ⟨R, 0, none⟩), .int .i64 0]) ∧ w'.cell? ⟨N, 0, none⟩ = some (.int .i64 n.size) ∧ w'.cell? ⟨N, 1, none⟩ = some (.int .i64 n.block) ∧ w'.cell? ⟨N, 2, none⟩ = some (.int .i64 n.spare) ∧ Hid (LRcvAt w' R (Rt.fresh n) (fun x => w3.heap.size ≤ x ∧ x < w'.heap.size) ∧ Below w3.heap.size w3 w') := by
      refine (makeR n HNK.out w3).mono ?_
      rintro e w' ⟨R, rfl, hl, hb⟩
      obtain ⟨q0, q1, q2⟩ := HCN.out w' (HB3.out.trans (hb.mono HB3.out.size))
      exact ⟨R, rfl, q0, q1, q2, hl, hb⟩
    go_wp2_with fail
    refine HR.mono ?_
    rintro e w4 ⟨R, rfl, z0, z1, z2, HS2⟩
    clear HR y0 y1 y2 z0 z1 z2
    have HPR : Hid (∃ C, Pr w2.heap.size w2 w4 C P R (LS.fresh n) (Rt.fresh n)) := by
      exact ⟨_, Pr.make HS1.out.2 HS1.out.1 HS2.out.2 HS2.out.1⟩
    have HBW : Hid (Below w.heap.size w w2 ∧ w.heap.size ≤ w2.heap.size) := ⟨HB0.out.trans (HB2.out.mono HB0.out.size), by have h1 := HB0.out.size; have h2 := HB2.out.size; show w.heap.size ≤ w2.heap.size; omega⟩
    clear HS1 HS2 HB3
    obtain ⟨C, hpr⟩ := HPR.out
    have HTJ : Hid (TJ (fun x => x < w2.heap.size) w2 (w4.alloc (.cells #[.pointer (some ⟨P, 0, none⟩), .pointer (some ⟨R, 0, none⟩), .slice none 0 0, .int .i64 0, .slice none 0 0, .slice none 0 0] 47)) w4.heap.size P R (St.fresh n) (Rt.fresh n) [] [] 0) := hpr.trip HNK.out
    clear hpr HPR
    go_wp2
    go_ret2
    exact .inr ⟨n, w4.heap.size, P, R, HNK.out, HEQ.out.1, HEQ.out.2.1, HEQ.out.2.2, rfl, _, _, HBW.out.1, HBW.out.2, HTJ.out⟩
  · have hfit : fitsB a b c = false := by unfold fitsB; exact decide_eq_false hE
    rw [hfit]
    have HNE : Hid (rightE a b c ≠ 0) := hE
    obtain ⟨x0, x1, x2⟩ := HCE.out w2 HB2.out
    have hE2 : (rightE a b c == 0) = false := by simpa using hE
    have HL : Calls Try.prog 33 #[.int .i64 a, .int .i64 b, .int .i64 c] w2 fun e w' => e = .returned (.tuple #[.pointer none, .int .i64 (rightE a b c)]) ∧ w'.cell? ⟨N, 0, none⟩ = some (.int .i64 a) ∧ w'.cell? ⟨N, 1, none⟩ = some (.int .i64 b) ∧ w'.cell? ⟨N, 2, none⟩ = some (.int .i64 c) ∧ Hid (Below W.heap.size W w') := by
      refine (makeBadS a b c HNE.out w2).mono ?_
      rintro e w' ⟨rfl, hb⟩
      have hb' := HB2.out.trans (hb.mono HB2.out.size)
      obtain ⟨q0, q1, q2⟩ := HCE.out w' hb'
      exact ⟨rfl, q0, q1, q2, hb'⟩
    clear hE hfit
    go_wp2_with fail
    refine HL.mono ?_
    rintro e w3 ⟨rfl, y0, y1, y2, HB3⟩
    clear HL x0 x1 x2
    have HR : Calls Try.prog 18 #[.int .i64 a, .int .i64 b, .int .i64 c] w3 fun e w' => e = .returned (.tuple #[.pointer none, .int .i64 (rightE a b c)]) ∧ w'.cell? ⟨N, 0, none⟩ = some (.int .i64 a) ∧ w'.cell? ⟨N, 1, none⟩ = some (.int .i64 b) ∧ w'.cell? ⟨N, 2, none⟩ = some (.int .i64 c) ∧ Hid (Below W.heap.size W w') := by
      refine (makeBadR a b c HNE.out w3).mono ?_
      rintro e w' ⟨rfl, hb⟩
      have hb' := HB3.out.trans (hb.mono HB3.out.size)
      obtain ⟨q0, q1, q2⟩ := HCE.out w' hb'
      exact ⟨rfl, q0, q1, q2, hb'⟩
    go_wp2_with fail
    refine HR.mono ?_
    rintro e w4 ⟨rfl, z0, z1, z2, HB4⟩
    clear HR y0 y1 y2 z0 z1 z2
    generalize rightE a b c = E at hE2 ⊢
    go_wp2
    go_ret2
    exact .inl ⟨HNE.out, rfl, HB0.out.trans (HB4.out.mono HB0.out.size)⟩
end Sn
end Go.Proofs.Ytkgnmcekeeannab
/-
  Travels: the rounds, in plain words.
-/
namespace Go.Proofs.Ytkgnmcekeeannab
namespace Sn
open Ms (txt text M It Tells)
set_option linter.unusedVariables false

/-- the last stretch ahead of round i -/
structure Str (s : St) (r : Rt) (T0 : Nat → Nat → Nat) (i : Nat) : Prop where
  ph : Ph s r T0
  since : Since s T0
  key : Keys s
  most : ∀ s3 r3, Ran s s3 r3 T0 r.taken → i ≤ mu s3 T0
theorem Str.start {s : St} {r : Rt} {on bk : List ByteArray} {c : Nat} (h : TI s r on bk c) : Str s r (turnOf s) 0 :=
  ⟨Ph.start h.sok h.n h.hon h.obs, since_now h.obs, h.key, fun _ _ _ => Nat.zero_le _⟩
theorem Str.ran {s : St} {r : Rt} {T0 : Nat → Nat → Nat} {i : Nat} (h : Str s r T0 i) : Ran s (sendN (s.left + 1) s r).1 (sendN (s.left + 1) s r).2 T0 r.taken := sendN_ran T0 s.left s r rfl h.ph
theorem Str.next {s : St} {r : Rt} {T0 : Nat → Nat → Nat} {i : Nat} (h : Str s r T0 i) (hne : (sendN (s.left + 1) s r).2.items ≠ []) :
    Str ((sendN (s.left + 1) s r).1.asked ((sendN (s.left + 1) s r).2.items.take 8)) (sendN (s.left + 1) s r).2 T0 (i + 1) := by
  have ran := h.ran
  have hi := h.most _ _ ran
  generalize (sendN (s.left + 1) s r).1 = s3 at *
  generalize (sendN (s.left + 1) s r).2 = r3 at *
  have hsi : Since s3 T0 := pot_since h.since ran.left ran.pot
  have hke : Keys s3 := keys_ran h.key ran.pot ran.n ran.objs
  have hkn : r3.known = s3.objs.length := by rw [ran.known, ran.objs]
  refine ⟨ran.ph.asked _, ?_, hke.of rfl rfl (asked_obs s3 _), fun s5 r5 ran5 => ?_⟩
  · intro j hj
    obtain ⟨hl, hat⟩ := asked_at s3 (r3.items.take 8)
    rw [hl] at hj
    obtain ⟨e1, e2, e3⟩ := hat j hj
    rw [e1, e2, e3]
    exact hsi j hj
  · have := (round_more ran.ph hsi hke hkn hne s5 r5 ran5).1
    omega
theorem Str.lid {s : St} {r : Rt} {T0 : Nat → Nat → Nat} {i : Nat} (h : Str s r T0 i) (hn : s.n.ok) (hd : s.debts.length = totalB s.n s.objs) : i ≤ totalB s.n s.objs * (s.n.block + s.n.spare) := by
  have ran := h.ran
  have hi := h.most _ _ ran
  have hl : (sendN (s.left + 1) s r).1.debts.length = s.debts.length := by
    have := congrArg List.length ran.pot
    simpa [pot] using this
  have hm := mu_le (sendN (s.left + 1) s r).1 (by rw [ran.n]; exact hn) T0
  rw [hl, ran.n, hd] at hm
  omega
/-- what a run leaves has the same objects -/
theorem sendN_same : ∀ (k : Nat) (s : St) (r : Rt), (sendN k s r).1.n = s.n ∧ (sendN k s r).1.objs = s.objs
  | 0, s, r => ⟨rfl, rfl⟩
  | k + 1, s, r => by
    have h := sendN_same k (nxt s).1 (r.hear (nxtM s)).1
    obtain ⟨e1, e2⟩ := nxt_same s
    exact ⟨h.1.trans e1, h.2.trans e2⟩
theorem run_most {s : St} {r : Rt} {on bk : List ByteArray} {c : Nat} (h : TI s r on bk c) : s.left ≤ total s.n s.objs + totalB s.n s.objs * s.n.block := by
  have := left_le h.owe
  rw [h.dl] at this
  exact this
end Sn
end Go.Proofs.Ytkgnmcekeeannab
