import Derived.Test.YtkgnmcekeeannabMx
namespace Go.Proofs.Ytkgnmcekeeannab
open Go.RowKit Go.Deep
namespace Ms
open Bs
set_option linter.unusedVariables false

def BoolIs (e : Ending) (P : Prop) : Prop := ∃ r : Bool, e = .returned (.bool r) ∧ (r = true ↔ P)
def Place (o b : Int) : Prop := 0 ≤ o ∧ o ≤ 7 ∧ 0 ≤ b ∧ b ≤ 255
set_option maxHeartbeats 1000000 in
theorem isPlace_any (o b : Int) (w : World) :
    Calls Try.prog 75 #[.int .i64 o, .int .i64 b] w fun e w' => BoolIs e (Place o b) ∧ w' = w := by
  go_enter Try.func75, Try.ntmps75
  go_wp2
  all_goals
    go_ret
    refine ⟨⟨_, rfl, ?_⟩, rfl⟩
    unfold Place
    simp
    try omega
set_option maxHeartbeats 1000000 in
theorem hasData_any (kd ob bl nu le : Int) (sy : ByteArray) (ao : Option Addr) (n cap : Nat) (os : Int) (w : World) (hs : sy.size ≤ maxLen) :
    Calls Try.prog 76 #[mV kd ob bl nu le sy ao n cap os] w fun e w' => BoolIs e (¬ NoData ob bl nu le sy) ∧ Below w.heap.size w w' := by
  unfold maxLen at hs
  obtain ⟨B1, e1⟩ : ∃ B, (ob != 0) = B := ⟨_, rfl⟩
  obtain ⟨B2, e2⟩ : ∃ B, (bl != 0) = B := ⟨_, rfl⟩
  obtain ⟨B3, e3⟩ : ∃ B, (nu != 0) = B := ⟨_, rfl⟩
  obtain ⟨B4, e4⟩ : ∃ B, (le != 0) = B := ⟨_, rfl⟩
  obtain ⟨B5, e5⟩ : ∃ B, ((sy.size : Int) != 0) = B := ⟨_, rfl⟩
  have HX : Hid ((B1 || B2 || B3 || B4 || B5) = true ↔ ¬ NoData ob bl nu le sy) := by
    unfold Hid NoData
    rw [← e1, ← e2, ← e3, ← e4, ← e5]
    simp only [Bool.or_eq_true, bne_iff_ne, ne_eq]
    omega
  have hb : Below w.heap.size w (w.alloc (mBox kd ob bl nu le sy ao n cap os)) := (Below.refl _ _).alloc (Nat.le_refl _) _
  go_enter Try.func76, Try.ntmps76
  go_wp2
  all_goals
    go_ret
    refine ⟨⟨_, rfl, ?_⟩, hb⟩
    rw [← HX.out]
    simp [*]
abbrev itV (t : It) : Value := .agg #[.int .i64 t.o, .int .i64 t.b, .int .i64 t.c]
set_option maxHeartbeats 1000000 in
theorem isItem_any (t : It) (w : World) :
    Calls Try.prog 77 #[itV t] w fun e w' => BoolIs e (itOK t) ∧ Below w.heap.size w w' := by
  obtain ⟨o, b, c⟩ := t
  have HP := fun W => isPlace_any o b W
  have hb : Below w.heap.size w (w.alloc (.cells #[.int .i64 o, .int .i64 b, .int .i64 c] 106)) := (Below.refl _ _).alloc (Nat.le_refl _) _
  go_enter Try.func77, Try.ntmps77
  go_wp2_with fail
  refine (HP _).mono ?_
  rintro e w' ⟨⟨r, rfl, hr⟩, rfl⟩
  clear HP
  have HR : Hid (r = true ↔ Place o b) := hr
  clear hr
  cases r with
  | false =>
    have h : Hid (¬ Place o b) := fun h => by have := HR.out.2 h; cases this
    go_wp2
    go_ret
    refine ⟨⟨_, rfl, ?_⟩, hb⟩
    have := h.out
    unfold Place at this
    unfold itOK
    simp
    omega
  | true =>
    have h : Hid (Place o b) := HR.out.1 rfl
    go_wp2
    all_goals
      go_ret
      refine ⟨⟨_, rfl, ?_⟩, hb⟩
      have := h.out
      unfold Place at this
      unfold itOK
      simp
      try omega
set_option maxHeartbeats 1000000 in
theorem isEnd_any (kd ob bl nu le : Int) (sy : ByteArray) (ao : Option Addr) (n cap : Nat) (os : Int) (w : World) (hn : n ≤ maxLen) (hs : sy.size ≤ maxLen) :
    Calls Try.prog 61 #[mV kd ob bl nu le sy ao n cap os] w fun e w' => BoolIs e (0 ≤ os ∧ os ≤ 8 ∧ NoData ob bl nu le sy ∧ n = 0) ∧ Below w.heap.size w w' := by
  have HD := hasData_any kd ob bl nu le sy ao n cap os (w.alloc (mBox kd ob bl nu le sy ao n cap os)) hs
  unfold maxLen at hn hs
  go_enter Try.func61, Try.ntmps61
  go_wp2_with fail
  refine HD.mono ?_
  rintro e w1 ⟨⟨r, rfl, hr⟩, hb1⟩
  have HR : Hid (r = true ↔ ¬ NoData ob bl nu le sy) := hr
  have B1 : Below w.heap.size w w1 := ((Below.refl _ _).alloc (Nat.le_refl _) _).trans (hb1.mono (by simp))
  have c6 : w1.cell? ⟨w.heap.size, 6, none⟩ = some (.slice ao n cap) := (hb1.cell (p := ⟨w.heap.size, 6, none⟩) (by simp)).trans (cell_new rfl rfl)
  have c7 : w1.cell? ⟨w.heap.size, 7, none⟩ = some (.int .i64 os) := (hb1.cell (p := ⟨w.heap.size, 7, none⟩) (by simp)).trans (cell_new rfl rfl)
  clear HD hr hb1
  obtain ⟨B, hB⟩ : ∃ B, ((n : Int) != 0) = B := ⟨_, rfl⟩
  have HB : Hid (B = false ↔ n = 0) := by unfold Hid; rw [← hB]; simp
  cases r with
  | true =>
    have h : Hid (¬ NoData ob bl nu le sy) := HR.out.1 rfl
    go_wp2
    go_ret
    exact ⟨⟨_, rfl, by simp [h.out]⟩, B1⟩
  | false =>
    have h : Hid (NoData ob bl nu le sy) := Classical.not_not.1 (fun h => by have := HR.out.2 h; cases this)
    cases B with
    | true =>
      have h0 : Hid (¬ n = 0) := fun h => by have := HB.out.2 h; cases this
      go_wp2
      go_ret
      exact ⟨⟨_, rfl, by simp [h0.out]⟩, B1⟩
    | false =>
      have h0 : Hid (n = 0) := HB.out.1 rfl
      go_wp2
      all_goals
        go_ret
        refine ⟨⟨_, rfl, ?_⟩, B1⟩
        have h' := h.out
        have h0' := h0.out
        simp [h', h0']
        try omega
end Ms
end Go.Proofs.Ytkgnmcekeeannab
