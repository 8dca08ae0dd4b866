import Derived.Test.YtkgnmcekeeannabNA
namespace Go.Proofs.Ytkgnmcekeeannab
open Go.RowKit Go.Deep
namespace Ms
open Bs
set_option linter.unusedVariables false

set_option maxHeartbeats 1000000 in
theorem isData_any (kd ob bl nu le : Int) (sy : ByteArray) (ao : Option Addr) (n cap : Nat) (os : Int) (w : World) (hn : n ≤ maxLen) (hs : sy.size ≤ maxLen) :
    Calls Try.prog 59 #[mV kd ob bl nu le sy ao n cap os] w fun e w' => BoolIs e (DataFits ob bl nu le sy ∧ n = 0 ∧ os = 0) ∧ Below w.heap.size w w' := by
  have HP := fun W => isPlace_any ob bl W
  unfold maxLen at hn hs
  have hb : Below w.heap.size w (w.alloc (mBox kd ob bl nu le sy ao n cap os)) := (Below.refl _ _).alloc (Nat.le_refl _) _
  obtain ⟨B1, e1⟩ : ∃ B, ((n : Int) != 0) = B := ⟨_, rfl⟩
  obtain ⟨B2, e2⟩ : ∃ B, (os != 0) = B := ⟨_, rfl⟩
  have HX : Hid ((B1 || B2) = false ↔ n = 0 ∧ os = 0) := by
    unfold Hid
    rw [← e1, ← e2]
    simp only [Bool.or_eq_false_iff, bne_eq_false_iff_eq]
    omega
  go_enter Try.func59, Try.ntmps59
  cases B1 with
  | true =>
    have h : Hid (¬ (n = 0 ∧ os = 0)) := fun h => by have := HX.out.2 h; cases this
    go_wp2
    go_ret
    exact ⟨⟨_, rfl, by simp; intro _ h1 h2; exact h.out ⟨h1, h2⟩⟩, hb⟩
  | false =>
    cases B2 with
    | true =>
      have h : Hid (¬ (n = 0 ∧ os = 0)) := fun h => by have := HX.out.2 h; cases this
      go_wp2
      go_ret
      exact ⟨⟨_, rfl, by simp; intro _ h1 h2; exact h.out ⟨h1, h2⟩⟩, hb⟩
    | false =>
      have h : Hid (n = 0 ∧ os = 0) := HX.out.1 rfl
      clear HX
      go_wp2_with fail
      refine (HP _).mono ?_
      rintro e w' ⟨⟨r, rfl, hr⟩, rfl⟩
      clear HP
      have HR : Hid (r = true ↔ Place ob bl) := hr
      clear hr
      cases r with
      | false =>
        have hp : Hid (¬ Place ob bl) := fun h => by have := HR.out.2 h; cases this
        go_wp2
        go_ret
        refine ⟨⟨_, rfl, ?_⟩, hb⟩
        have := hp.out
        unfold Place at this
        unfold DataFits
        simp
        omega
      | true =>
        have hp : Hid (Place ob bl) := HR.out.1 rfl
        clear HR
        go_wp2
        all_goals
          go_ret
          refine ⟨⟨_, rfl, ?_⟩, hb⟩
          have hp' := hp.out
          have h' := h.out
          unfold Place at hp'
          unfold DataFits
          simp [h']
          try omega
set_option maxHeartbeats 1000000 in
theorem isRequest_any (kd ob bl nu le : Int) (sy : ByteArray) (ao : Option Addr) (n cap : Nat) (its : Nat → It) (os : Int) (w : World) (hn : n ≤ maxLen) (hs : sy.size ≤ maxLen) (hits : ItemsAt w ao n its) :
    Calls Try.prog 60 #[mV kd ob bl nu le sy ao n cap os] w fun e w' => BoolIs e (ReqFits ob bl nu le sy n its os) ∧ Below w.heap.size w w' := by
  have HD := hasData_any kd ob bl nu le sy ao n cap os (w.alloc (mBox kd ob bl nu le sy ao n cap os)) hs
  have HI : Hid (ItemsAt w ao n its) := hits
  clear hits
  unfold maxLen at hn hs
  go_enter Try.func60, Try.ntmps60
  go_wp2_with fail
  refine HD.mono ?_
  rintro e w1 ⟨⟨r, rfl, hr⟩, hb1⟩
  have HR : Hid (r = true ↔ ¬ NoData ob bl nu le sy) := hr
  have B1 : Below w.heap.size w w1 := ((Below.refl _ _).alloc (Nat.le_refl _) _).trans (hb1.mono (by simp))
  have c6 : w1.cell? ⟨w.heap.size, 6, none⟩ = some (.slice ao n cap) := (hb1.cell (p := ⟨w.heap.size, 6, none⟩) (by simp)).trans (cell_new rfl rfl)
  have c7 : w1.cell? ⟨w.heap.size, 7, none⟩ = some (.int .i64 os) := (hb1.cell (p := ⟨w.heap.size, 7, none⟩) (by simp)).trans (cell_new rfl rfl)
  have hz : w.heap.size < w1.heap.size := by have := hb1.size; simp at this; omega
  clear HD hr hb1
  obtain ⟨B, hB⟩ : ∃ B, (os != 0) = B := ⟨_, rfl⟩
  have HB : Hid (B = false ↔ os = 0) := by unfold Hid; rw [← hB]; simp
  cases r with
  | true =>
    have h : Hid (¬ ReqFits ob bl nu le sy n its os) := fun h => HR.out.1 rfl h.1
    go_wp2
    go_ret
    exact ⟨⟨_, rfl, by simp [h.out]⟩, B1⟩
  | false =>
    have hnd : Hid (NoData ob bl nu le sy) := Classical.not_not.1 (fun h => by have := HR.out.2 h; cases this)
    clear HR
    cases B with
    | true =>
      have h : Hid (¬ ReqFits ob bl nu le sy n its os) := fun h => by have := HB.out.2 h.2.1; cases this
      go_wp2
      go_ret
      exact ⟨⟨_, rfl, by simp [h.out]⟩, B1⟩
    | false =>
      have hos : Hid (os = 0) := HB.out.1 rfl
      clear HB
      by_cases g1 : 1 ≤ n
      · by_cases g2 : n ≤ 8
        · go_wp2
          go_loopw [3] (fun x wr => ∃ i : Nat, i ≤ n ∧ x = .int .i64 i ∧ (∀ j, j < i → itOK (its j)) ∧ Below w.heap.size w wr ∧ wr.cell? ⟨w.heap.size, 6, none⟩ = some (.slice ao n cap) ∧ w.heap.size < wr.heap.size) (fun x _ => n - (intOf x).toNat)
          case atStart => exact ⟨0, Nat.zero_le _, rfl, fun j hj => by omega, B1, c6, hz⟩
          case round =>
            clear B1 c6 hz c7 hB
            obtain ⟨i, hin, rfl, hok, hB, c6, hz⟩ := hrel
            have HOK : Hid (∀ j, j < i → itOK (its j)) := hok
            clear hok
            by_cases hlt : i < n
            · rcases HI.out with h | ⟨b, off, rfl, hbl, hc⟩
              · omega
              · obtain ⟨i1, i2, i3⟩ := hc i hlt
                have j1 := (hB.cell (p := ⟨b, off + i * 3, none⟩) hbl).trans i1
                have j2 := (hB.cell (p := ⟨b, off + i * 3 + 1, none⟩) hbl).trans i2
                have j3 := (hB.cell (p := ⟨b, off + i * 3 + 2, none⟩) hbl).trans i3
                clear i1 i2 i3 hc
                obtain ⟨t, ht⟩ : ∃ t, t = its i := ⟨_, rfl⟩
                have HT : Hid (t = its i) := ht
                rw [← ht] at j1 j2 j3
                clear ht
                have HIT := isItem_any t wr
                go_wp2_with fail
                refine HIT.mono ?_
                rintro e w4 ⟨⟨r, rfl, hr⟩, hb4⟩
                have HR : Hid (r = true ↔ itOK t) := hr
                have B4 : Below w.heap.size w w4 := hB.trans (hb4.mono (by omega))
                have c64 := (hb4.cell (p := ⟨w.heap.size, 6, none⟩) hz).trans c6
                have hz4 : w.heap.size < w4.heap.size := by have := hb4.size; omega
                clear hr HIT hb4 hB c6 j1 j2 j3
                cases r with
                | false =>
                  have HNO : Hid (¬ ReqFits ob bl nu le sy n its os) := fun h => by
                    have := HR.out.2 (HT.out ▸ h.2.2.2.2 i hlt)
                    cases this
                  go_wp2
                  go_ret
                  exact ⟨⟨_, rfl, by simp [HNO.out]⟩, B4⟩
                | true =>
                  have HIT : Hid (itOK t) := HR.out.1 rfl
                  go_wp2
                  go_roundw
                  case rel =>
                    refine ⟨i + 1, by omega, by go_num, fun j hj => ?_, B4, c64, hz4⟩
                    by_cases e : j = i
                    · rw [e, ← HT.out]; exact HIT.out
                    · exact HOK.out j (by omega)
                  case measure => simp [intOf]; omega
            · obtain rfl : i = n := by omega
              go_wp2
              go_ret
              exact ⟨⟨true, rfl, by simp only [true_iff]; exact ⟨hnd.out, hos.out, g1, g2, HOK.out⟩⟩, hB⟩
        · have h : Hid (¬ ReqFits ob bl nu le sy n its os) := fun h => g2 h.2.2.2.1
          go_wp2
          go_ret
          exact ⟨⟨_, rfl, by simp [h.out]⟩, B1⟩
      · have h : Hid (¬ ReqFits ob bl nu le sy n its os) := fun h => g1 h.2.2.1
        have g1' : (n : Int) < 1 := by omega
        clear g1
        go_wp2
        go_ret
        exact ⟨⟨_, rfl, by simp [h.out]⟩, B1⟩
end Ms
end Go.Proofs.Ytkgnmcekeeannab
