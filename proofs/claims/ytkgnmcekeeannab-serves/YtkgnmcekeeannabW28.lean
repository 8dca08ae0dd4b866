import Derived.Test.YtkgnmcekeeannabW27
import Derived.Test.YtkgnmcekeeannabW01
namespace Go.Proofs.Ytkgnmcekeeannab
open Go.RowKit Go.Deep
namespace Ms
open Bs
set_option linter.unusedVariables false

set_option maxHeartbeats 1000000 in
theorem isData_any (kd ob bl nu le : Int) (sy : ByteArray) (ao : Option Addr) (n cap : Nat) (os : Int) (w : World) (hn : n ≤ maxLen) (hs : sy.size ≤ maxLen) :
    Calls Try.prog 59 #[mV kd ob bl nu le sy ao n cap os] w fun e w' => BoolIs e (DataFits ob bl nu le sy ∧ n = 0 ∧ os = 0) ∧ Below w.heap.size w w' := by
  have HP := fun W => isPlace_any ob bl W
  unfold maxLen at hn hs
  have hb : Below w.heap.size w (w.alloc (mBox kd ob bl nu le sy ao n cap os)) := (Below.refl _ _).alloc (Nat.le_refl _) _
  obtain ⟨B1, e1⟩ : ∃ B, ((n : Int) != 0) = B := ⟨_, rfl⟩
  obtain ⟨B2, e2⟩ : ∃ B, (os != 0) = B := ⟨_, rfl⟩
  have HX : Hid ((B1 || B2) = false ↔ n = 0 ∧ os = 0) := by
    unfold Hid
    rw [← e1, ← e2]
    simp only [Bool.or_eq_false_iff, bne_eq_false_iff_eq]
    omega
  go_enter Try.func59, Try.ntmps59
  cases B1 with
  | true =>
    have h : Hid (¬ (n = 0 ∧ os = 0)) := fun h => by have := HX.out.2 h; cases this
    go_wp2
    go_ret
    exact ⟨⟨_, rfl, by simp; intro _ h1 h2; exact h.out ⟨h1, h2⟩⟩, hb⟩
  | false =>
    cases B2 with
    | true =>
      have h : Hid (¬ (n = 0 ∧ os = 0)) := fun h => by have := HX.out.2 h; cases this
      go_wp2
      go_ret
      exact ⟨⟨_, rfl, by simp; intro _ h1 h2; exact h.out ⟨h1, h2⟩⟩, hb⟩
    | false =>
      have h : Hid (n = 0 ∧ os = 0) := HX.out.1 rfl
      clear HX
      go_wp2_with fail
      refine (HP _).mono ?_
      rintro e w' ⟨⟨r, rfl, hr⟩, rfl⟩
      clear HP
      have HR : Hid (r = true ↔ Place ob bl) := hr
      clear hr
      cases r with
      | false =>
        have hp : Hid (¬ Place ob bl) := fun h => by have := HR.out.2 h; cases this
        go_wp2
        go_ret
        refine ⟨⟨_, rfl, ?_⟩, hb⟩
        have := hp.out
        unfold Place at this
        unfold DataFits
        simp
        omega
      | true =>
        have hp : Hid (Place ob bl) := HR.out.1 rfl
        clear HR
        go_wp2
        all_goals
          go_ret
          refine ⟨⟨_, rfl, ?_⟩, hb⟩
          have hp' := hp.out
          have h' := h.out
          unfold Place at hp'
          unfold DataFits
          simp [h']
          try omega
set_option maxHeartbeats 1000000 in
theorem isRequest_any (kd ob bl nu le : Int) (sy : ByteArray) (ao : Option Addr) (n cap : Nat) (its : Nat → It) (os : Int) (w : World) (hn : n ≤ maxLen) (hs : sy.size ≤ maxLen) (hits : ItemsAt w ao n its) :
    Calls Try.prog 60 #[mV kd ob bl nu le sy ao n cap os] w fun e w' => BoolIs e (ReqFits ob bl nu le sy n its os) ∧ Below w.heap.size w w' := by
  have HD := hasData_any kd ob bl nu le sy ao n cap os (w.alloc (mBox kd ob bl nu le sy ao n cap os)) hs
  have HI : Hid (ItemsAt w ao n its) := hits
  clear hits
  unfold maxLen at hn hs
  go_enter Try.func60, Try.ntmps60
  go_wp2_with fail
  refine HD.mono ?_
  rintro e w1 ⟨⟨r, rfl, hr⟩, hb1⟩
  have HR : Hid (r = true ↔ ¬ NoData ob bl nu le sy) := hr
  have B1 : Below w.heap.size w w1 := ((Below.refl _ _).alloc (Nat.le_refl _) _).trans (hb1.mono (by simp))
  have c6 : w1.cell? ⟨w.heap.size, 6, none⟩ = some (.slice ao n cap) := (hb1.cell (p := ⟨w.heap.size, 6, none⟩) (by simp)).trans (cell_new rfl rfl)
  have c7 : w1.cell? ⟨w.heap.size, 7, none⟩ = some (.int .i64 os) := (hb1.cell (p := ⟨w.heap.size, 7, none⟩) (by simp)).trans (cell_new rfl rfl)
  have hz : w.heap.size < w1.heap.size := by have := hb1.size; simp at this; omega
  clear HD hr hb1
  obtain ⟨B, hB⟩ : ∃ B, (os != 0) = B := ⟨_, rfl⟩
  have HB : Hid (B = false ↔ os = 0) := by unfold Hid; rw [← hB]; simp
  cases r with
  | true =>
    have h : Hid (¬ ReqFits ob bl nu le sy n its os) := fun h => HR.out.1 rfl h.1
    go_wp2
    go_ret
    exact ⟨⟨_, rfl, by simp [h.out]⟩, B1⟩
  | false =>
    have hnd : Hid (NoData ob bl nu le sy) := Classical.not_not.1 (fun h => by have := HR.out.2 h; cases this)
    clear HR
    cases B with
    | true =>
      have h : Hid (¬ ReqFits ob bl nu le sy n its os) := fun h => by have := HB.out.2 h.2.1; cases this
      go_wp2
      go_ret
      exact ⟨⟨_, rfl, by simp [h.out]⟩, B1⟩
    | false =>
      have hos : Hid (os = 0) := HB.out.1 rfl
      clear HB
      by_cases g1 : 1 ≤ n
      · by_cases g2 : n ≤ 8
        · go_wp2
          go_loopw [3] (fun x wr => ∃ i : Nat, i ≤ n ∧ x = .int .i64 i ∧ (∀ j, j < i → itOK (its j)) ∧ Below w.heap.size w wr ∧ wr.cell? ⟨w.heap.size, 6, none⟩ = some (.slice ao n cap) ∧ w.heap.size < wr.heap.size) (fun x _ => n - (intOf x).toNat)
          case atStart => exact ⟨0, Nat.zero_le _, rfl, fun j hj => by omega, B1, c6, hz⟩
          case round =>
            clear B1 c6 hz c7 hB
            obtain ⟨i, hin, rfl, hok, hB, c6, hz⟩ := hrel
            have HOK : Hid (∀ j, j < i → itOK (its j)) := hok
            clear hok
            by_cases hlt : i < n
            · rcases HI.out with h | ⟨b, off, rfl, hbl, hc⟩
              · omega
              · obtain ⟨i1, i2, i3⟩ := hc i hlt
                have j1 := (hB.cell (p := ⟨b, off + i * 3, none⟩) hbl).trans i1
                have j2 := (hB.cell (p := ⟨b, off + i * 3 + 1, none⟩) hbl).trans i2
                have j3 := (hB.cell (p := ⟨b, off + i * 3 + 2, none⟩) hbl).trans i3
                clear i1 i2 i3 hc
                obtain ⟨t, ht⟩ : ∃ t, t = its i := ⟨_, rfl⟩
                have HT : Hid (t = its i) := ht
                rw [← ht] at j1 j2 j3
                clear ht
                have HIT := isItem_any t wr
                go_wp2_with fail
                refine HIT.mono ?_
                rintro e w4 ⟨⟨r, rfl, hr⟩, hb4⟩
                have HR : Hid (r = true ↔ itOK t) := hr
                have B4 : Below w.heap.size w w4 := hB.trans (hb4.mono (by omega))
                have c64 := (hb4.cell (p := ⟨w.heap.size, 6, none⟩) hz).trans c6
                have hz4 : w.heap.size < w4.heap.size := by have := hb4.size; omega
                clear hr HIT hb4 hB c6 j1 j2 j3
                cases r with
                | false =>
                  have HNO : Hid (¬ ReqFits ob bl nu le sy n its os) := fun h => by
                    have := HR.out.2 (HT.out ▸ h.2.2.2.2 i hlt)
                    cases this
                  go_wp2
                  go_ret
                  exact ⟨⟨_, rfl, by simp [HNO.out]⟩, B4⟩
                | true =>
                  have HIT : Hid (itOK t) := HR.out.1 rfl
                  go_wp2
                  go_roundw
                  case rel =>
                    refine ⟨i + 1, by omega, by go_num, fun j hj => ?_, B4, c64, hz4⟩
                    by_cases e : j = i
                    · rw [e, ← HT.out]; exact HIT.out
                    · exact HOK.out j (by omega)
                  case measure => simp [intOf]; omega
            · obtain rfl : i = n := by omega
              go_wp2
              go_ret
              exact ⟨⟨true, rfl, by simp only [true_iff]; exact ⟨hnd.out, hos.out, g1, g2, HOK.out⟩⟩, hB⟩
        · have h : Hid (¬ ReqFits ob bl nu le sy n its os) := fun h => g2 h.2.2.2.1
          go_wp2
          go_ret
          exact ⟨⟨_, rfl, by simp [h.out]⟩, B1⟩
      · have h : Hid (¬ ReqFits ob bl nu le sy n its os) := fun h => g1 h.2.2.1
        have g1' : (n : Int) < 1 := by omega
        clear g1
        go_wp2
        go_ret
        exact ⟨⟨_, rfl, by simp [h.out]⟩, B1⟩
end Ms
end Go.Proofs.Ytkgnmcekeeannab
namespace Go.Proofs.Ytkgnmcekeeannab
open Go.RowKit Go.Deep
namespace Ms
open Bs
set_option linter.unusedVariables false

theorem shr8 (x : Int) (h0 : 0 ≤ x) : x / 2 ^ 8 = x / 256 := by rfl

set_option maxHeartbeats 1000000 in
theorem dataBody_any (kd ob bl nu le : Int) (sy : ByteArray) (ao : Option Addr) (n cap : Nat) (os : Int) (w : World) (hf : DataFits ob bl nu le sy) :
    Calls Try.prog 62 #[mV kd ob bl nu le sy ao n cap os] w fun e w' => e = .returned (.string (txt ([68, u8w ob, u8w bl, u8w nu, u8w (le / 256), u8w (le % 256)] ++ sy.data.toList))) ∧ Below w.heap.size w w' := by
  have HF : Hid (DataFits ob bl nu le sy) := hf
  have l1 : 0 ≤ le := by have := hf; unfold DataFits at this; omega
  have l2 : le ≤ 256 := by have := hf; unfold DataFits at this; omega
  have ls : sy.size ≤ 16 := by have := hf; unfold DataFits at this; omega
  clear hf
  have hcv := conv_new (w := w.alloc (mBox kd ob bl nu le sy ao n cap os)) (n := 6) (b := w.heap.size + 1) (c := #[.int .u8 68, .int .u8 (ob % 256), .int .u8 (bl % 256), .int .u8 (nu % 256), .int .u8 (le / 256), .int .u8 (le % 256)]) [68, u8w ob, u8w bl, u8w nu, u8w (le / 256), u8w (le % 256)] (by simp) (by simp [bv, toNat_u8w]; omega) rfl (by decide) (by decide)
  have HB : Hid (Below w.heap.size w ((w.alloc (mBox kd ob bl nu le sy ao n cap os)).alloc (.cells #[.int .u8 68, .int .u8 (ob % 256), .int .u8 (bl % 256), .int .u8 (nu % 256), .int .u8 (le / 256), .int .u8 (le % 256)] 5))) :=
    ((Below.refl _ _).alloc (Nat.le_refl _) _).alloc (by simp) _
  have HT : Hid ((⟨([68, u8w ob, u8w bl, u8w nu, u8w (le / 256), u8w (le % 256)] : List UInt8).toArray⟩ : ByteArray) ++ sy = txt ([68, u8w ob, u8w bl, u8w nu, u8w (le / 256), u8w (le % 256)] ++ sy.data.toList)) := by
    unfold Hid
    rw [← txt_append, txt_of]; rfl
  have z6 : (⟨([68, u8w ob, u8w bl, u8w nu, u8w (le / 256), u8w (le % 256)] : List UInt8).toArray⟩ : ByteArray).size = 6 := rfl
  generalize (⟨([68, u8w ob, u8w bl, u8w nu, u8w (le / 256), u8w (le % 256)] : List UInt8).toArray⟩ : ByteArray) = S6 at *
  have ha : ∀ W', (Op.stringOp .add S6 sy).run Try.prog W' = .ok (.string (S6 ++ sy)) W' := fun W' => run_string_add_sum W' _ _ (by omega)
  go_enter Try.func62, Try.ntmps62
  go_wp2
  go_ret
  exact ⟨congrArg (fun s => Ending.returned (.string s)) HT.out, HB.out⟩
set_option maxHeartbeats 2000000 in
theorem requestBody_any (ao : Option Addr) (n cap : Nat) (its : Nat → It) (w : World) (h1 : 1 ≤ n) (h8 : n ≤ 8) (hits : ItemsAt w ao n its) :
    Calls Try.prog 63 #[.slice ao n cap] w fun e w' => e = .returned (.string (reqB n its n)) ∧ Below w.heap.size w w' := by
  obtain ⟨i0, hi, hz0, hz1, hz2⟩ := info_parts3 infoByte
  obtain ⟨b, off, rfl, hbl, hc⟩ : ∃ b off, ao = some ⟨b, off, none⟩ ∧ b < w.heap.size ∧ ∀ i, i < n → w.cell? ⟨b, off + i * 3, none⟩ = some (.int .i64 (its i).o) ∧ w.cell? ⟨b, off + i * 3 + 1, none⟩ = some (.int .i64 (its i).b) ∧ w.cell? ⟨b, off + i * 3 + 2, none⟩ = some (.int .i64 (its i).c) := by
    rcases hits with h | h
    · omega
    · exact h
  have HC : Hid (∀ i, i < n → w.cell? ⟨b, off + i * 3, none⟩ = some (.int .i64 (its i).o) ∧ w.cell? ⟨b, off + i * 3 + 1, none⟩ = some (.int .i64 (its i).b) ∧ w.cell? ⟨b, off + i * 3 + 2, none⟩ = some (.int .i64 (its i).c)) := hc
  clear hc hits
  obtain ⟨N, hN⟩ : ∃ N, N = w.heap.size := ⟨_, rfl⟩
  have B0 : Below N w (w.alloc (.cells #[.int .u8 82, .int .u8 ((n : Int))] 5)) := by rw [hN]; exact (Below.refl _ _).alloc (Nat.le_refl _) _
  have O0 : Hid ((w.alloc (.cells #[.int .u8 82, .int .u8 ((n : Int))] 5)).ownsRow N 5 1 (.slice (some ⟨N, 0, none⟩) 2 2) (2 + 3 * 0) ((([82, u8w n] : List UInt8) ++ itsT its 0).map bv)) := by
    unfold Hid
    have h := owns_new (w := w) (base := N) (e := 5) (size := 1) (n := 2) (c := #[.int .u8 82, .int .u8 ((n : Int))]) (by omega) (by decide) rfl
    rw [← hN] at h
    have e : (#[Value.int .u8 82, .int .u8 ((n : Int))] : Array Value).toList = (([82, u8w n] : List UInt8) ++ itsT its 0).map bv := by
      simp [itsT, bv, toNat_u8w]
      omega
    rw [← e]
    exact h
  have hN' : w.heap.size = N := hN.symm
  rw [hN'] at hbl ⊢
  clear hN
  go_enter Try.func63, Try.ntmps63
  go_wp2
  go_loopw [3, 4] (fun v x wr => ∃ i : Nat, i ≤ n ∧ x = .int .i64 i ∧ wr.ownsRow N 5 1 v (2 + 3 * i) ((([82, u8w n] : List UInt8) ++ itsT its i).map bv) ∧ Below N w wr) (fun _ x _ => n - (intOf x).toNat)
  case atStart => exact ⟨0, Nat.zero_le _, rfl, O0.out, B0⟩
  case round =>
    clear O0 B0
    obtain ⟨i, hin, rfl, hown, hB⟩ := hrel
    have hsz : N ≤ wr.heap.size := by have := hB.size; omega
    by_cases hlt : i < n
    · obtain ⟨i1, i2, i3⟩ := HC.out i hlt
      have j1 := (hB.cell (p := ⟨b, off + i * 3, none⟩) hbl).trans i1
      have j2 := (hB.cell (p := ⟨b, off + i * 3 + 1, none⟩) hbl).trans i2
      have j3 := (hB.cell (p := ⟨b, off + i * 3 + 2, none⟩) hbl).trans i3
      clear i1 i2 i3
      obtain ⟨ao', cap', rfl⟩ := owns_form hown
      obtain ⟨t, ht⟩ : ∃ t, t = its i := ⟨_, rfl⟩
      rw [← ht] at j1 j2 j3
      have HL : Hid ((([82, u8w n] : List UInt8) ++ itsT its i).map bv ++ [.int .u8 (t.o % 256), .int .u8 (t.b % 256), .int .u8 (t.c % 256)] = (([82, u8w n] : List UInt8) ++ itsT its (i + 1)).map bv) := by
        unfold Hid
        rw [itsT, ← ht, ← List.append_assoc, List.map_append (l₂ := itL t)]
        simp [itL, bv, toNat_u8w]
      have HOWN : Hid (wr.ownsRow N 5 1 (.slice ao' (2 + 3 * i) cap') (2 + 3 * i) ((([82, u8w n] : List UInt8) ++ itsT its i).map bv)) := hown
      clear hown ht
      generalize (([82, u8w n] : List UInt8) ++ itsT its i).map bv = XS at *
      go_wp2_with fail
      go_region_law (
        refine step_append_at rfl (.tmp 15) (.tmp 34) 72 rfl N 5 i0 (.int .u8 0) 1 1 Try.underlying72 hi hz0 hz1 hz2 rfl (by decide) (.slice ao' (2 + 3 * i) cap') (2 + 3 * i) XS rfl (HOWN.out.alloc (.cells #[.int .u8 (t.o % 256), .int .u8 (t.b % 256), .int .u8 (t.c % 256)] 5)) ⟨wr.heap.size, 0, none⟩ 3 3 [.int .u8 (t.o % 256), .int .u8 (t.b % 256), .int .u8 (t.c % 256)] rfl rfl news3 (by intro u hu; simp at hu; rcases hu with rfl | rfl | rfl <;> rfl) (by unfold maxLen; omega) (by omega) (by simp; omega) ?_
        intro v' w1 hown' hgrow _)
      all_goals
        have B1 := below_append_d hB hsz HOWN.out hgrow
        rw [HL.out] at hown'
        clear hgrow HOWN hB j1 j2 j3
        go_wp2
        go_roundw
        case rel => exact ⟨i + 1, by omega, by go_num, hown', B1⟩
        case measure => simp [intOf]; omega
    · obtain rfl : i = n := by omega
      have hcv := conv_owned _ (by simp [itsT_length]; omega) (by omega) hown
      clear hown
      go_wp2
      go_ret
      exact ⟨rfl, hB⟩
set_option maxHeartbeats 1000000 in
theorem isMessage_any (m : M) (ao : Option Addr) (cap : Nat) (w : World) (hn : m.items.length ≤ maxLen) (hs : m.sym.size ≤ maxLen) (hits : ItemsAt w ao m.items.length (itF m.items)) :
    Calls Try.prog 44 #[mVm m ao cap] w fun e w' => BoolIs e (ok m) ∧ Below w.heap.size w w' := by
  obtain ⟨kd, ob, bl, nu, le, sy, l, os⟩ := m
  simp only at *
  have hits2 : ItemsAt (w.alloc (mBox kd ob bl nu le sy ao l.length cap os)) ao l.length (itF l) := by
    rcases hits with h | ⟨b, off, h1, h2, h3⟩
    · exact .inl h
    · exact .inr ⟨b, off, h1, by simp; omega, fun i hi => ⟨cell_old h2 (h3 i hi).1, cell_old h2 (h3 i hi).2.1, cell_old h2 (h3 i hi).2.2⟩⟩
  have H1 := isData_any kd ob bl nu le sy ao l.length cap os (w.alloc (mBox kd ob bl nu le sy ao l.length cap os)) hn hs
  have H2 := isRequest_any kd ob bl nu le sy ao l.length cap (itF l) os (w.alloc (mBox kd ob bl nu le sy ao l.length cap os)) hn hs hits2
  have H3 := isEnd_any kd ob bl nu le sy ao l.length cap os (w.alloc (mBox kd ob bl nu le sy ao l.length cap os)) hn hs
  have B0 : Below w.heap.size w (w.alloc (mBox kd ob bl nu le sy ao l.length cap os)) := (Below.refl _ _).alloc (Nat.le_refl _) _
  clear hits hits2
  by_cases k1 : kd = 1
  · subst k1
    clear H2 H3
    go_enter Try.func44, Try.ntmps44
    go_wp2_with fail
    refine H1.mono ?_
    rintro e w' ⟨⟨r, rfl, hr⟩, hb⟩
    have HR : Hid (r = true ↔ DataFits ob bl nu le sy ∧ l.length = 0 ∧ os = 0) := hr
    have B1 := B0.trans (hb.mono (by simp))
    clear H1 hr hb B0
    go_wp2
    go_ret
    refine ⟨⟨r, rfl, HR.out.trans ⟨fun h => .inl ⟨rfl, ?_⟩, ?_⟩⟩, B1⟩
    · obtain ⟨⟨a1, a2, a3, a4, a5, a6, a7, a8, a9, a10⟩, h0, h1⟩ := h
      exact ⟨a1, a2, a3, a4, a5, a6, a7, a8, a9, a10, List.length_eq_zero_iff.1 h0, h1⟩
    · rintro (⟨_, h⟩ | ⟨h, _⟩ | ⟨h, _⟩)
      · obtain ⟨a1, a2, a3, a4, a5, a6, a7, a8, a9, a10, h0, h1⟩ := h
        exact ⟨⟨a1, a2, a3, a4, a5, a6, a7, a8, a9, a10⟩, List.length_eq_zero_iff.2 h0, h1⟩
      · exact absurd h (by simp)
      · exact absurd h (by simp)
  · by_cases k2 : kd = 2
    · subst k2
      clear H1 H3
      go_enter Try.func44, Try.ntmps44
      go_wp2_with fail
      refine H2.mono ?_
      rintro e w' ⟨⟨r, rfl, hr⟩, hb⟩
      have HR : Hid (r = true ↔ ReqFits ob bl nu le sy l.length (itF l) os) := hr
      have B1 := B0.trans (hb.mono (by simp))
      clear H2 hr hb B0
      go_wp2
      go_ret
      refine ⟨⟨r, rfl, HR.out.trans ⟨fun h => .inr (.inl ⟨rfl, h.1, h.2.1, h.2.2.1, h.2.2.2.1, (itF_mem l).1 h.2.2.2.2⟩), ?_⟩⟩, B1⟩
      rintro (⟨h, _⟩ | ⟨_, h⟩ | ⟨h, _⟩)
      · exact absurd h (by simp)
      · exact ⟨h.1, h.2.1, h.2.2.1, h.2.2.2.1, (itF_mem l).2 h.2.2.2.2⟩
      · exact absurd h (by simp)
    · by_cases k3 : kd = 3
      · subst k3
        clear H1 H2
        go_enter Try.func44, Try.ntmps44
        go_wp2_with fail
        refine H3.mono ?_
        rintro e w' ⟨⟨r, rfl, hr⟩, hb⟩
        have HR : Hid (r = true ↔ 0 ≤ os ∧ os ≤ 8 ∧ NoData ob bl nu le sy ∧ l.length = 0) := hr
        have B1 := B0.trans (hb.mono (by simp))
        clear H3 hr hb B0
        go_wp2
        go_ret
        refine ⟨⟨r, rfl, HR.out.trans ⟨fun h => .inr (.inr ⟨rfl, h.1, h.2.1, h.2.2.1, List.length_eq_zero_iff.1 h.2.2.2⟩), ?_⟩⟩, B1⟩
        rintro (⟨h, _⟩ | ⟨h, _⟩ | ⟨_, h⟩)
        · exact absurd h (by simp)
        · exact absurd h (by simp)
        · exact ⟨h.1, h.2.1, h.2.2.1, List.length_eq_zero_iff.2 h.2.2.2⟩
      · have t1 : (kd == 1) = false := by simp [k1]
        have t2 : (kd == 2) = false := by simp [k2]
        have t3 : (kd == 3) = false := by simp [k3]
        have HN : Hid (¬ ok ⟨kd, ob, bl, nu, le, sy, l, os⟩) := by
          rintro (⟨h', _⟩ | ⟨h', _⟩ | ⟨h', _⟩)
          · exact k1 h'
          · exact k2 h'
          · exact k3 h'
        clear H1 H2 H3 k1 k2 k3
        go_enter Try.func44, Try.ntmps44
        go_wp2
        go_ret
        exact ⟨⟨false, rfl, by simp [HN.out]⟩, B0⟩
set_option maxHeartbeats 1000000 in
theorem bodyOf_any (m : M) (ao : Option Addr) (cap : Nat) (w : World) (hok : ok m) (hits : ItemsAt w ao m.items.length (itF m.items)) :
    Calls Try.prog 45 #[mVm m ao cap] w fun e w' => e = .returned (.string (txt (body m))) ∧ Below w.heap.size w w' := by
  obtain ⟨kd, ob, bl, nu, le, sy, l, os⟩ := m
  simp only at *
  have hits2 : ItemsAt (w.alloc (mBox kd ob bl nu le sy ao l.length cap os)) ao l.length (itF l) := by
    rcases hits with h | ⟨b, off, h1, h2, h3⟩
    · exact .inl h
    · exact .inr ⟨b, off, h1, by simp; omega, fun i hi => ⟨cell_old h2 (h3 i hi).1, cell_old h2 (h3 i hi).2.1, cell_old h2 (h3 i hi).2.2⟩⟩
  have B0 : Below w.heap.size w (w.alloc (mBox kd ob bl nu le sy ao l.length cap os)) := (Below.refl _ _).alloc (Nat.le_refl _) _
  clear hits
  rcases hok with ⟨rfl, h⟩ | ⟨rfl, h⟩ | ⟨rfl, h⟩
  · obtain ⟨a1, a2, a3, a4, a5, a6, a7, a8, a9, a10, h0, h1⟩ := h
    have H := dataBody_any 1 ob bl nu le sy ao l.length cap os (w.alloc (mBox 1 ob bl nu le sy ao l.length cap os)) ⟨a1, a2, a3, a4, a5, a6, a7, a8, a9, a10⟩
    clear a1 a2 a3 a4 a5 a6 a7 a8 a9 a10 h0 h1 hits2
    have HT : Hid (body ⟨1, ob, bl, nu, le, sy, l, os⟩ = [68, u8w ob, u8w bl, u8w nu, u8w (le / 256), u8w (le % 256)] ++ sy.data.toList) := rfl
    rw [← HT.out] at H
    generalize body ⟨1, ob, bl, nu, le, sy, l, os⟩ = BD at *
    clear HT
    go_enter Try.func45, Try.ntmps45
    go_wp2_with fail
    refine H.mono ?_
    rintro e w' ⟨rfl, hb⟩
    have B1 := B0.trans (hb.mono (by simp))
    clear H hb B0
    go_wp2
    go_ret
    exact ⟨rfl, B1⟩
  · have H := requestBody_any ao l.length cap (itF l) (w.alloc (mBox 2 ob bl nu le sy ao l.length cap os)) h.2.2.1 h.2.2.2.1 hits2
    clear hits2
    have HT : Hid (txt (body ⟨2, ob, bl, nu, le, sy, l, os⟩) = reqB l.length (itF l) l.length) := by
      unfold Hid
      simp only [body, reqB, itsT_all, txt]
      rfl
    rw [← HT.out] at H
    generalize txt (body ⟨2, ob, bl, nu, le, sy, l, os⟩) = BD at *
    clear HT h
    go_enter Try.func45, Try.ntmps45
    go_wp2_with fail
    refine H.mono ?_
    rintro e w' ⟨rfl, hb⟩
    have B1 := B0.trans (hb.mono (by simp))
    clear H hb B0
    go_wp2
    go_ret
    exact ⟨rfl, B1⟩
  · have o1 : 0 ≤ os := h.1
    have o2 : os ≤ 8 := h.2.1
    clear h hits2
    have hcv := conv_new (w := w.alloc (mBox 3 ob bl nu le sy ao l.length cap os)) (n := 2) (b := w.heap.size + 1) (c := #[.int .u8 69, .int .u8 os]) [69, u8w os] (by simp) (by simp [bv, toNat_u8w]; omega) rfl (by decide) (by decide)
    have B1 := B0.alloc (by simp) (.cells #[.int .u8 69, .int .u8 os] 5)
    have HT : Hid ((⟨([69, u8w os] : List UInt8).toArray⟩ : ByteArray) = txt (body ⟨3, ob, bl, nu, le, sy, l, os⟩)) := rfl
    rw [HT.out] at hcv
    generalize txt (body ⟨3, ob, bl, nu, le, sy, l, os⟩) = BD at *
    clear HT B0
    go_enter Try.func45, Try.ntmps45
    go_wp2
    go_ret
    exact ⟨rfl, B1⟩
end Ms
end Go.Proofs.Ytkgnmcekeeannab
namespace Go.Proofs.Ytkgnmcekeeannab
open Go.RowKit Go.Deep
namespace Ms
open Bs
set_option linter.unusedVariables false

set_option maxHeartbeats 1000000 in
theorem mWrite (m : M) (ao : Option Addr) (cap : Nat) (w : World) (hn : m.items.length ≤ maxLen) (hs : m.sym.size ≤ maxLen) (hits : ItemsAt w ao m.items.length (itF m.items)) :
    Calls Try.prog 28 #[mVm m ao cap] w fun e w' => WriteOut m e ∧ Below w.heap.size w w' := by
  have B0 : Below w.heap.size w (w.alloc (mBox m.kind m.obj m.blk m.num m.len m.sym ao m.items.length cap m.objs)) := (Below.refl _ _).alloc (Nat.le_refl _) _
  have HI : Hid (ItemsAt w ao m.items.length (itF m.items)) := hits
  have HM := isMessage_any m ao cap _ hn hs (hits.stay B0)
  clear hits
  go_enter Try.func28, Try.ntmps28
  go_wp2_with fail
  refine HM.mono ?_
  rintro e w1 ⟨⟨r, rfl, hr⟩, hb1⟩
  have HR : Hid (r = true ↔ ok m) := hr
  have B1 := B0.trans (hb1.mono (by simp))
  have bx : ∀ j v, (#[Value.int .i64 m.kind, .int .i64 m.obj, .int .i64 m.blk, .int .i64 m.num, .int .i64 m.len, .string m.sym, .slice ao m.items.length cap, .int .i64 m.objs] : Array Value)[j]? = some v → w1.cell? ⟨w.heap.size, j, none⟩ = some v :=
    fun j v hv => (hb1.cell (p := ⟨w.heap.size, j, none⟩) (by simp)).trans (cell_new rfl hv)
  have d0 := bx 0 _ rfl
  have d1 := bx 1 _ rfl
  have d2 := bx 2 _ rfl
  have d3 := bx 3 _ rfl
  have d4 := bx 4 _ rfl
  have d5 := bx 5 _ rfl
  have d6 := bx 6 _ rfl
  have d7 := bx 7 _ rfl
  clear HM hr hb1 B0 bx
  cases r with
  | false =>
    have hno : Hid (¬ ok m) := fun h => by have := HR.out.2 h; cases this
    go_wp2
    go_ret2
    exact ⟨.inr ⟨hno.out, rfl⟩, B1⟩
  | true =>
    have hok : Hid (ok m) := HR.out.1 rfl
    have HB := bodyOf_any m ao cap w1 hok.out (HI.out.stay B1)
    go_wp2_with fail
    refine HB.mono ?_
    rintro e w2 ⟨rfl, hb2⟩
    have B2 := B1.trans (hb2.mono B1.size)
    clear HB hb2 B1 d0 d1 d2 d3 d4 d5 d6 d7 HI HR
    have hsz : (txt (body m)).size ≤ 26 := by rw [txt_size]; exact (body_len hok.out).2
    have HX : Hid (txt (body m) ++ (⟨([u8w ((Crc.sum (body m) / 256 : Nat) : Int), u8w ((Crc.sum (body m) % 256 : Nat) : Int)] : List UInt8).toArray⟩ : ByteArray) = txt (text m)) := by
      unfold Hid
      show txt (body m) ++ txt _ = _
      rw [txt_append]
      rfl
    have HC := Crc.checkSum (txt (body m)) w2 (by unfold maxLen; omega)
    rw [txt_data] at HC
    have hS := Crc.sum_lt (body m)
    generalize Crc.sum (body m) = S at *
    generalize txt (body m) = T at *
    go_wp2_with fail
    refine HC.mono ?_
    rintro e w3 ⟨rfl, rfl⟩
    clear HC
    have hcv := conv_new (w := w3) (n := 2) (b := w3.heap.size) (c := #[.int .u8 ((S : Int) / 256), .int .u8 ((S : Int) % 256)]) [u8w ((S / 256 : Nat) : Int), u8w ((S % 256 : Nat) : Int)] rfl (by simp [bv, toNat_u8w]; omega) rfl (by decide) (by decide)
    have B3 := B2.alloc (by have := B2.size; omega) (.cells #[.int .u8 ((S : Int) / 256), .int .u8 ((S : Int) % 256)] 5)
    have z2 : (⟨([u8w ((S / 256 : Nat) : Int), u8w ((S % 256 : Nat) : Int)] : List UInt8).toArray⟩ : ByteArray).size = 2 := rfl
    generalize (⟨([u8w ((S / 256 : Nat) : Int), u8w ((S % 256 : Nat) : Int)] : List UInt8).toArray⟩ : ByteArray) = S2 at *
    have ha : ∀ W', (Op.stringOp .add T S2).run Try.prog W' = .ok (.string (T ++ S2)) W' := fun W' => run_string_add_sum W' _ _ (by omega)
    go_wp2
    go_ret2
    exact ⟨.inl ⟨hok.out, by rw [← HX.out]; rfl⟩, B3⟩
set_option maxHeartbeats 1000000 in
theorem rWrite (m : M) (ao : Option Addr) (cap : Nat) (w : World) (hn : m.items.length ≤ maxLen) (hs : m.sym.size ≤ maxLen) (hits : ItemsAt w ao m.items.length (itF m.items)) :
    Calls Try.prog 6 #[mVm m ao cap] w fun e w' => WriteOut m e ∧ Below w.heap.size w w' := by
  have B0 : Below w.heap.size w (w.alloc (mBox m.kind m.obj m.blk m.num m.len m.sym ao m.items.length cap m.objs)) := (Below.refl _ _).alloc (Nat.le_refl _) _
  have H := mWrite m ao cap _ hn hs (hits.stay B0)
  clear hits
  go_enter Try.func6, Try.ntmps6
  go_wp2_with fail
  refine H.mono ?_
  rintro e w1 ⟨hout, hb1⟩
  have B1 := B0.trans (hb1.mono (by simp))
  clear H hb1 B0
  rcases hout with ⟨hok, rfl⟩ | ⟨hno, rfl⟩
  · have HK : Hid (ok m) := hok
    clear hok
    go_wp2
    go_ret2
    exact ⟨.inl ⟨HK.out, rfl⟩, B1⟩
  · go_wp2
    go_ret2
    exact ⟨.inr ⟨hno, rfl⟩, B1⟩
end Ms
end Go.Proofs.Ytkgnmcekeeannab
/-
  The landed sender's data.
-/
namespace Go.Proofs.Ytkgnmcekeeannab
open Go.RowKit Go.Deep
namespace Sn
open Bs
open Ms (M txt text ok mV mVm WriteOut mWrite)
set_option linter.unusedVariables false

abbrev pV (a b c : Int) : Value := .agg #[.int .i64 a, .int .i64 b, .int .i64 c]
abbrev pBox (a b c : Int) : Obj := .cells #[.int .i64 a, .int .i64 b, .int .i64 c] 85
set_option maxRecDepth 100000 in
set_option maxHeartbeats 4000000 in
theorem lanData (s : LS) (i b num P : Nat) (F : Nat → Prop) (ao : Option Addr) (co : Nat) (D : Nat → Nat) (w : World) (hs : LOk s) (hi : i < s.objs.length) (hbb : b ≤ 255) (hk : 0 < s.n.many (s.obj i).size b) (hnum : num < s.n.many (s.obj i).size b + s.n.spare) (hnum2 : num ≤ 15) (hA : LI w P s F ao co D) :
    Calls Try.prog 56 #[.pointer (some ⟨P, 0, none⟩), pV i b num] w fun e w' => e = .returned (.string (txt (text (dataM s.n (s.obj i) i b num)))) ∧ Below w.heap.size w w' := by
  have B0 : Below w.heap.size w (w.alloc (.cells #[.int .i64 i, .int .i64 b, .int .i64 num] 85)).drew := ((Below.refl _ _).alloc (Nat.le_refl _) _).drew
  have b0 : (w.alloc (.cells #[.int .i64 i, .int .i64 b, .int .i64 num] 85)).drew.cell? ⟨w.heap.size, 0, none⟩ = some (.int .i64 i) := cell_new (w := w) rfl rfl
  have b1 : (w.alloc (.cells #[.int .i64 i, .int .i64 b, .int .i64 num] 85)).drew.cell? ⟨w.heap.size, 1, none⟩ = some (.int .i64 b) := cell_new (w := w) rfl rfl
  have b2 : (w.alloc (.cells #[.int .i64 i, .int .i64 b, .int .i64 num] 85)).drew.cell? ⟨w.heap.size, 2, none⟩ = some (.int .i64 num) := cell_new (w := w) rfl rfl
  have bz : w.heap.size < (w.alloc (.cells #[.int .i64 i, .int .i64 b, .int .i64 num] 85)).drew.heap.size := by simp [World.drew]
  obtain ⟨wd, hwd⟩ : ∃ wd, wd = (w.alloc (.cells #[.int .i64 i, .int .i64 b, .int .i64 num] 85)).drew := ⟨_, rfl⟩
  rw [← hwd] at B0 b0 b1 b2 bz
  have hA0 := hA.below B0
  have hz := hs.sz i hi
  have hlen := hs.len
  have HK : Hid (ok (dataM s.n (s.obj i) i b num)) := dataM_ok s.n hs.nok (s.obj i) i b num hz (by omega) hbb hnum2
  have HW : ∀ W, Calls Try.prog 28 #[mV 1 i b num (s.obj i).size (txt (symOf s.n (s.obj i) b num)) none 0 0 0] W fun e w' => e = .returned (.tuple #[.string (txt (text (dataM s.n (s.obj i) i b num))), .int .i64 0]) ∧ Below W.heap.size W w' := fun W => by
    refine (mWrite (dataM s.n (s.obj i) i b num) none 0 W (Nat.zero_le _) (by show (txt _).size ≤ _; rw [Ms.txt_size, symOf_length]; have := hs.nok.2.1; unfold maxLen; omega) (.inl rfl)).mono ?_
    rintro e w' ⟨ho, hb⟩
    rcases ho with ⟨_, rfl⟩ | ⟨h, _⟩
    · exact ⟨rfl, hb⟩
    · exact absurd HK.out h
  have HY := fun W h => lanSymbol s (s.obj i) b num P F ao co D W hs hz.2 hbb hk hnum h
  obtain ⟨g, rfl, hg, hsl⟩ := hA0.slot (by omega)
  obtain ⟨c0, c1, c2, c3, c4, c5, c6⟩ := hA0.cells
  have s0 := (hsl i hi).1
  have HA : Hid (LI wd P s F (some ⟨g, 0, none⟩) co D) := hA0
  clear hsl c0 c1 c2 c4 c5 c6 hA hA0 HK
  generalize txt (text (dataM s.n (s.obj i) i b num)) = T at *
  generalize txt (symOf s.n (s.obj i) b num) = SY at *
  generalize s.obj i = o at *
  generalize s.objs.length = L at *
  go_enter Try.func56, Try.ntmps56
  go_wp2_with fail
  (refine wp_region_still_tail 9 (by kernel_rfl) (by kernel_rfl) ?_; change wpStill _ _ (World.drew _) (fun a' => wpList _ _ _ _ a' (World.drew _)) _ _; simp only [← hwd]; clear hwd; simp only [List.take_succ_cons, List.take_zero, List.drop_succ_cons, List.drop_zero]; (repeat still_step); refine wpStill_nil ?_)
  have HY1 := HY wd HA.out
  clear HY
  go_wp2_with fail
  refine HY1.mono ?_
  rintro e w1 ⟨rfl, hb1⟩
  have B1 := B0.trans (hb1.mono B0.size)
  have k0 : w1.cell? ⟨w.heap.size, 0, none⟩ = some (.int .i64 i) := (hb1.cell (p := ⟨w.heap.size, 0, none⟩) bz).trans b0
  have k1 : w1.cell? ⟨w.heap.size, 1, none⟩ = some (.int .i64 b) := (hb1.cell (p := ⟨w.heap.size, 1, none⟩) bz).trans b1
  have k2 : w1.cell? ⟨w.heap.size, 2, none⟩ = some (.int .i64 num) := (hb1.cell (p := ⟨w.heap.size, 2, none⟩) bz).trans b2
  clear HY1 hb1 B0 b0 b1 b2 bz c3 s0 HA
  go_wp2_with fail
  refine (HW _).mono ?_
  rintro e w2 ⟨rfl, hb2⟩
  have B2 : Below w.heap.size w w2 := (B1.alloc B1.size _).trans (hb2.mono (by have := B1.size; simp; omega))
  clear HW hb2 B1 k0 k1 k2
  go_wp2
  go_ret
  exact ⟨rfl, B2⟩
end Sn
end Go.Proofs.Ytkgnmcekeeannab
