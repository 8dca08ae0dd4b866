import Derived.Test.YtkgnmcekeeannaaMrk
import Derived.Test.YtkgnmcekeeannaaLW
namespace Go.Proofs.Ytkgnmcekeeannaa
open Go.RowKit Go.Deep
namespace Ms
open Bs
set_option linter.unusedVariables false

theorem infoItems : (Try.prog.info? 36).map (fun i => (i.zero, i.size, i.bytes)) = some (some (.slice none 0 0), 1, 24) := by kernel_rfl

theorem owns_row {w : World} {base e size n cap g : Nat} {xs : List Value} (h : w.ownsRow base e size (.slice (some ⟨g, 0, none⟩) n cap) n xs) : ∃ F : Nat → Value, w.rowIs g e (cap * size) F ∧ n ≤ cap ∧ cap ≤ maxLen := by
  rcases h.2 with ⟨h0, _⟩ | ⟨g', cap', cur, e', hb, hg, h1, h2, h3, h4⟩
  · cases h0
  · simp only [Value.slice.injEq, Option.some.injEq, Addr.mk.injEq, and_true, true_and] at e'
    obtain ⟨rfl, rfl⟩ := e'
    refine ⟨fun i => (cur[i]?).getD undef, ⟨cur, hg, h3, fun i hi => ?_⟩, h1, h2⟩
    show cur[i]? = some ((cur[i]?).getD undef)
    rw [Array.getElem?_eq_getElem (by omega)]
    rfl
theorem row_owns {w : World} {e size n cap g : Nat} {F : Nat → Value} (h : w.rowIs g e (cap * size) F) (h1 : n ≤ cap) (h2 : cap ≤ maxLen) : w.ownsRow 0 e size (.slice (some ⟨g, 0, none⟩) n cap) n ((List.range (n * size)).map F) := by
  obtain ⟨cur, hg, hz, hc⟩ := h
  refine ⟨by simp, .inr ⟨g, cap, cur, rfl, Nat.zero_le _, hg, h1, h2, hz, ?_⟩⟩
  have hle : n * size ≤ cap * size := Nat.mul_le_mul_right _ h1
  apply List.ext_getElem?
  intro j
  by_cases hj : j < n * size
  · rw [List.getElem?_take, if_pos hj]
    simp only [Array.getElem?_toList, List.getElem?_map, List.getElem?_range hj, Option.map_some]
    exact hc j (by omega)
  · rw [List.getElem?_take, if_neg hj]
    simp [hj]
def MarkedAt (w : World) (A n : Nat) (k : Int) (S : Nat → Prop) : Prop := A < w.heap.size ∧ S A ∧ ∀ j, j < 4 → ∃ aj cj, w.cell? ⟨A, j, none⟩ = some (.slice aj (n + j) cj) ∧ KAt w aj (n + j) k ∧ (0 < n + j → ∀ b, aj = some ⟨b, 0, none⟩ → S b)
theorem MarkedAt.stay {w w' : World} {A n : Nat} {k : Int} {S : Nat → Prop} (h : MarkedAt w A n k S) (hsz : w.heap.size ≤ w'.heap.size) (hb : ∀ b, S b → b < w.heap.size → w'.heap[b]? = w.heap[b]?) : MarkedAt w' A n k S := by
  refine ⟨Nat.lt_of_lt_of_le h.1 hsz, h.2.1, fun j hj => ?_⟩
  obtain ⟨aj, cj, h1, h2, h3⟩ := h.2.2 j hj
  refine ⟨aj, cj, (World.cell?_of_block (a := ⟨A, j, none⟩) (hb A h.2.1 h.1)).trans h1, ?_, h3⟩
  by_cases h0 : n + j = 0
  · exact .inl h0
  · exact h2.stay hsz (fun b e hlt => hb b (h3 (by omega) b e) hlt)

/-- the first loop: the list is written over -/
def RowK (w wr : World) (ao : Option Addr) (n cap : Nat) (k : Int) (i : Nat) : Prop :=
  (n = 0 ∧ wr.ownsRow 0 40 3 (.slice ao n cap) n (icells (kk k) n)) ∨
  ∃ (g : Nat) (F : Nat → Value), ao = some ⟨g, 0, none⟩ ∧ g < w.heap.size ∧ n ≤ cap ∧ cap ≤ maxLen ∧ wr.rowIs g 40 (cap * 3) (fun j => if j < i * 3 then .int .i64 k else F j)
theorem RowK.done {w wr : World} {ao : Option Addr} {n cap : Nat} {k : Int} (h : RowK w wr ao n cap k n) : wr.ownsRow 0 40 3 (.slice ao n cap) n (icells (kk k) n) := by
  rcases h with ⟨_, h⟩ | ⟨g, F, rfl, _, h1, h2, h3⟩
  · exact h
  · have h := row_owns (n := n) h3 h1 h2
    have e : (List.range (n * 3)).map (fun j => if j < n * 3 then Value.int .i64 k else F j) = icells (kk k) n := by
      unfold icells
      refine List.map_congr_left (fun j hj => ?_)
      have : j < n * 3 := by simpa using hj
      rw [if_pos this, icell_kk]
    rw [e] at h
    exact h
set_option maxRecDepth 100000 in
set_option maxHeartbeats 4000000 in
theorem marked_any (ao : Option Addr) (n cap base : Nat) (its : Nat → It) (k : Int) (w : World) (hn : n ≤ 8) (hown : w.ownsRow base 40 3 (.slice ao n cap) n (icells its n)) :
    Calls Try.prog 29 #[.slice ao n cap, .int .i64 k] w fun e w' => ∃ A cA, e = .returned (.slice (some ⟨A, 0, none⟩) 4 cA) ∧ MarkedAt w' A n k (fun b => (Value.slice ao n cap).ownBlock = some b ∨ w.heap.size ≤ b) ∧ w.grownBy w' (Value.slice ao n cap).ownBlock := by
  obtain ⟨i0, hi, hz0, hz1, hz2⟩ := info_parts3 infoItem
  obtain ⟨i1, ki, kz0, kz1, kz2⟩ := info_parts3 infoItems
  obtain ⟨X, hX⟩ : ∃ X, X = w.heap.size := ⟨_, rfl⟩
  have hX' : w.heap.size = X := hX.symm
  have hlt0 : ∀ b, (Value.slice ao n cap).ownBlock = some b → b < X := fun b hb => by rw [hX]; exact (hown.lt b hb).2
  have RK0 : Hid (RowK w (w.alloc (.cells #[.int .i64 k, .int .i64 k, .int .i64 k] 40)) ao n cap k 0) := by
    unfold Hid RowK
    by_cases h0 : n = 0
    · subst h0
      exact .inl ⟨rfl, owns_mono (hown.alloc _) (Nat.zero_le _)⟩
    · rcases hown.2 with ⟨_, h0'⟩ | ⟨g, cap', cur, e', _⟩
      · exact absurd h0' h0
      · simp only [Value.slice.injEq] at e'
        obtain ⟨rfl, _, rfl⟩ := e'
        have hlt := (hown.lt g rfl).2
        obtain ⟨F, hF, h1, h2⟩ := owns_row hown
        exact .inr ⟨g, F, rfl, hlt, h1, h2, (hF.of_block (Below.heap_alloc w _ g hlt)).congr (fun j _ => by simp)⟩
  have G0 : w.grownBy (w.alloc (.cells #[.int .i64 k, .int .i64 k, .int .i64 k] 40)) (Value.slice ao n cap).ownBlock := World.grownBy_alloc w _ _
  have xc0 : ∀ t, t < 3 → (w.alloc (.cells #[.int .i64 k, .int .i64 k, .int .i64 k] 40)).cell? ⟨X, t, none⟩ = some (.int .i64 k) := fun t ht => by
    match t, ht with
    | 0, _ => exact cell_new hX rfl
    | 1, _ => exact cell_new hX rfl
    | 2, _ => exact cell_new hX rfl
  have z0 : X < (w.alloc (.cells #[.int .i64 k, .int .i64 k, .int .i64 k] 40)).heap.size := by simp; omega
  have HOWN : Hid (w.ownsRow base 40 3 (.slice ao n cap) n (icells its n)) := hown
  clear hown hX
  go_enter Try.func29, Try.ntmps29
  go_wp2
  go_loopw [6] (fun x wr => ∃ i : Nat, i ≤ n ∧ x = .int .i64 i ∧ RowK w wr ao n cap k i ∧ w.grownBy wr (Value.slice ao n cap).ownBlock ∧ (∀ t, t < 3 → wr.cell? ⟨X, t, none⟩ = some (.int .i64 k)) ∧ X < wr.heap.size) (fun x _ => n - (intOf x).toNat)
  case atStart => exact ⟨0, Nat.zero_le _, rfl, RK0.out, G0, xc0, z0⟩
  case round =>
    clear RK0 G0 xc0 z0
    obtain ⟨i, hin, rfl, hrk, hfr, hxc, hxz⟩ := hrel
    have x0 := hxc 0 (by decide)
    have x1 := hxc 1 (by decide)
    have x2 := hxc 2 (by decide)
    by_cases hlt : i < n
    · rcases hrk with ⟨h0, _⟩ | ⟨g, F, rfl, hg, h1, h2, hR⟩
      · omega
      · have q0 := hR.cell (i := i * 3) (by omega)
        have q1 := hR.cell (i := i * 3 + 1) (by omega)
        have q2 := hR.cell (i := i * 3 + 2) (by omega)
        have f0 := hR.frozen (i * 3)
        have f1 := hR.frozen (i * 3 + 1)
        have f2 := hR.frozen (i * 3 + 2)
        have hgX : g ≠ X := by omega
        have R3 : Hid (RowK w (((wr.setCell ⟨g, i * 3, none⟩ (.int .i64 k)).setCell ⟨g, i * 3 + 1, none⟩ (.int .i64 k)).setCell ⟨g, i * 3 + 2, none⟩ (.int .i64 k)) (some ⟨g, 0, none⟩) n cap k (i + 1)) := by
          unfold Hid RowK
          exact .inr ⟨g, F, rfl, hg, h1, h2, (((hR.set (i * 3) (.int .i64 k)).set (i * 3 + 1) (.int .i64 k)).set (i * 3 + 2) (.int .i64 k)).congr (fun j hj => by
            by_cases e : j < i * 3
            · simp [e, show j < (i + 1) * 3 by omega, show ¬ j = i * 3 by omega, show ¬ j = i * 3 + 1 by omega, show ¬ j = i * 3 + 2 by omega]
            · by_cases e3 : j < (i + 1) * 3
              · have : j = i * 3 ∨ j = i * 3 + 1 ∨ j = i * 3 + 2 := by omega
                rcases this with rfl | rfl | rfl <;> simp [e3]
              · simp [e, e3, show ¬ j = i * 3 by omega, show ¬ j = i * 3 + 1 by omega, show ¬ j = i * 3 + 2 by omega])⟩
        have FR : w.grownBy (((wr.setCell ⟨g, i * 3, none⟩ (.int .i64 k)).setCell ⟨g, i * 3 + 1, none⟩ (.int .i64 k)).setCell ⟨g, i * 3 + 2, none⟩ (.int .i64 k)) (Value.slice (some ⟨g, 0, none⟩) n cap).ownBlock :=
          ⟨hfr.os, hfr.tape, hfr.output, by simp; exact hfr.size, fun b hb hne => by
            have hbg : b ≠ g := fun e => hne (by rw [e]; rfl)
            rw [heap_setCell_other _ _ _ _ hbg, heap_setCell_other _ _ _ _ hbg, heap_setCell_other _ _ _ _ hbg]
            exact hfr.block b hb hne⟩
        have XC : Hid (∀ t, t < 3 → (((wr.setCell ⟨g, i * 3, none⟩ (.int .i64 k)).setCell ⟨g, i * 3 + 1, none⟩ (.int .i64 k)).setCell ⟨g, i * 3 + 2, none⟩ (.int .i64 k)).cell? ⟨X, t, none⟩ = some (.int .i64 k)) := fun t ht => by
          rw [← hxc t ht]
          exact World.cell?_of_block (a := ⟨X, t, none⟩) (by rw [heap_setCell_other _ _ _ _ (Ne.symm hgX), heap_setCell_other _ _ _ _ (Ne.symm hgX), heap_setCell_other _ _ _ _ (Ne.symm hgX)])
        have HFR : Hid (w.grownBy (((wr.setCell ⟨g, i * 3, none⟩ (.int .i64 k)).setCell ⟨g, i * 3 + 1, none⟩ (.int .i64 k)).setCell ⟨g, i * 3 + 2, none⟩ (.int .i64 k)) (Value.slice (some ⟨g, 0, none⟩) n cap).ownBlock) := FR
        clear hR hfr hxc FR
        go_wp2
        go_roundw
        case rel => exact ⟨i + 1, by omega, by go_num, R3.out, HFR.out, XC.out, by simp; exact hxz⟩
        case measure => simp [intOf]; omega
    · obtain rfl : i = n := by omega
      have O1 := hrk.done
      have hfr' := hfr
      have hwz : X ≤ wr.heap.size := by omega
      have M0 : Hid (MI w (wr.alloc (.cells #[.slice ao i cap] 36)) X (Value.slice ao i cap).ownBlock i k 0 i ao cap (some ⟨wr.heap.size, 0, none⟩) 1 (fun _ => ao) (fun _ => cap)) := by
        have hz : wr.heap.size < (wr.alloc (.cells #[.slice ao i cap] 36)).heap.size := by simp
        have hk : KAt (wr.alloc (.cells #[.slice ao i cap] 36)) ao i k := KAt.of_owns (O1.alloc _)
        refine ⟨O1.alloc _, owns_new (w := wr) (base := 0) (e := 36) (size := 1) (n := 1) (c := #[.slice ao i cap]) (Nat.zero_le _) (by decide) rfl, fun j hj => ?_, fun j hj hp b hb => ?_, fun j hj => by omega, fun t ht => ?_, by simp; omega, fun e => ?_, fun e => ?_, fun b hb => ?_, (frame_on hfr' (World.grownBy_alloc wr _ none) (.inr (fun b hb => by cases hb))), .inl rfl, fun b hb => ?_, fun j hj hp b hb => ?_⟩
        · obtain rfl : j = 0 := by omega
          exact hk
        · intro e
          have e1 : wr.heap.size = b := Option.some.inj e
          rcases KAt.of_owns O1 with h0 | ⟨b', hb1, hb2, _⟩
          · omega
          · rw [hb] at hb1
            simp only [Option.some.injEq, Addr.mk.injEq, and_true] at hb1
            omega
        · exact cell_old hxz (hxc t ht)
        · have := hlt0 X e; omega
        · have e1 : wr.heap.size = X := Option.some.inj e
          omega
        · intro e
          have e1 : wr.heap.size = b := Option.some.inj e
          have := (O1.lt b hb).2
          omega
        · have e1 : wr.heap.size = b := Option.some.inj hb
          have := hfr'.size
          omega
        · exact .inl (by rw [hb]; rfl)
      have HLT : Hid (∀ b, (Value.slice ao i cap).ownBlock = some b → b < X) := hlt0
      clear hrk hfr hfr' O1 hxc hlt0 HOWN x0 x1 x2
      go_wp2
      go_loopw [0, 7, 8] (fun l v x wr => ∃ (j : Nat) (al : Option Addr) (cl : Nat) (aA : Option Addr) (cA : Nat) (a : Nat → Option Addr) (c : Nat → Nat), j ≤ 3 ∧ x = .int .i64 j ∧ l = .slice al (i + j) cl ∧ v = .slice aA (j + 1) cA ∧ MI w wr X (Value.slice ao i cap).ownBlock i k j (i + j) al cl aA cA a c) (fun _ _ x _ => 3 - (intOf x).toNat)
      case atStart => exact ⟨0, ao, cap, _, _, _, _, Nat.zero_le _, rfl, rfl, rfl, M0.out⟩
      case round =>
        clear M0
        obtain ⟨j, al, cl, aA, cA, a, c, hj, rfl, rfl, rfl, hM⟩ := hrel
        have x0 := hM.xc 0 (by decide)
        have x1 := hM.xc 1 (by decide)
        have x2 := hM.xc 2 (by decide)
        have HM := (show Hid (MI w wr X (Value.slice ao i cap).ownBlock i k j (i + j) al cl aA cA a c) from hM)
        clear hM
        by_cases hlt : j < 3
        · go_wp2_with (at_builtin; refine wpList_append_two _ rfl _ _ 36 rfl 40 i0 (.agg #[.int .i64 0, .int .i64 0, .int .i64 0]) 3 24 Try.underlying36 hi hz0 hz1 hz2 rfl (by decide) (.slice al (i + j) cl) (i + j) (icells (kk k) (i + j)) rfl (HM.out.own.alloc _) ⟨wr.heap.size, 0, none⟩ 1 1 [.int .i64 k, .int .i64 k, .int .i64 k] rfl rfl news3 (by intro u hu; simp at hu; subst hu; rfl) (by unfold maxLen; omega) (by omega) (by decide) ?_)
          intro v' w1 hown' h2
          obtain ⟨al2, cl2, rfl⟩ := owns_form hown'
          have HM1 : Hid (MI w w1 X (Value.slice ao i cap).ownBlock i k j (i + j + 1) al2 cl2 aA cA a c) := HM.out.more_l (by omega) hown' h2
          clear HM hown' h2 x0 x1 x2
          obtain ⟨XS, hXS⟩ : ∃ XS, XS = (List.range (j + 1)).map (fun j => Value.slice (a j) (i + j) (c j)) := ⟨_, rfl⟩
          have HXS : Hid (XS = (List.range (j + 1)).map (fun j => Value.slice (a j) (i + j) (c j))) := hXS
          have OA : Hid (w1.ownsRow 0 36 1 (.slice aA (j + 1) cA) (j + 1) XS) := by unfold Hid; rw [hXS]; exact HM1.out.all
          clear hXS
          go_wp2_with (at_builtin; refine wpList_append_two _ rfl _ _ 47 rfl 36 i1 (.slice none 0 0) 1 24 Try.underlying47 ki kz0 kz1 kz2 rfl (by decide) (.slice aA (j + 1) cA) (j + 1) XS rfl (OA.out.alloc _) ⟨w1.heap.size, 0, none⟩ 1 1 [.slice al2 (i + j + 1) cl2] rfl rfl (cell_one_new _ _ _) (by intro u hu; simp at hu; subst hu; rfl) (by unfold maxLen; omega) (by omega) (by decide) ?_)
          intro v' w2 hown' h2
          obtain ⟨aA2, cA2, rfl⟩ := owns_form hown'
          rw [HXS.out] at hown'
          have HM2 : Hid (MI w w2 X (Value.slice ao i cap).ownBlock i k (j + 1) (i + (j + 1)) al2 cl2 aA2 cA2 (fun t => if t = j + 1 then al2 else a t) (fun t => if t = j + 1 then cl2 else c t)) := HM1.out.more_a rfl hown' h2
          clear HM1 hown' h2
          go_wp2
          go_roundw
          case rel => exact ⟨j + 1, al2, cl2, aA2, cA2, _, _, by omega, by go_num, rfl, rfl, HM2.out⟩
          case measure => simp [intOf]; omega
        · obtain rfl : j = 3 := by omega
          clear x0 x1 x2
          go_wp2
          go_ret
          have hM := HM.out
          rcases hM.all.2 with ⟨_, h0⟩ | ⟨A, cA', cur, e, _⟩
          · omega
          · simp only [Value.slice.injEq] at e
            obtain ⟨rfl, _, rfl⟩ := e
            have hc := hM.all.cells (g := A) rfl
            refine ⟨A, cA, rfl, ⟨(hM.all.lt A rfl).2, .inr (hM.aown A rfl), fun t ht => ⟨a t, c t, ?_, hM.each t (by omega), fun hp b hb => hM.eown t (by omega) hp b hb⟩⟩, hM.frame⟩
            have := hc t (.slice (a t) (i + t) (c t)) (by simp [show t < 3 + 1 by omega])
            rw [add_eq0] at this
            exact this
end Ms
end Go.Proofs.Ytkgnmcekeeannaa
