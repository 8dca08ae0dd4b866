import Derived.Test.YtkgnmcekeeannaaWQ
import Derived.OpenShut
import Derived.Test.YtkgnmcekeeannaaApp
namespace Go.Proofs.Ytkgnmcekeeannaa
open Go.RowKit Go.Deep
namespace Kp
open Pol (G fm fi lag)
open Cod (bv byteAt byteAt_eq flat flat_get flat_length symF conv_row infoByte infoInt vals vals_succ vals_length vals_get iv ints ints_succ ints_vals one_news below_append Lies)
open Fld (ret_int val_int)

/-- what is left and what has been taken: all different, all below most -/
structure Sorts (most i : Nat) (L ns : Nat → Nat) : Prop where
  left : ∀ x, x < most - i → L x < most
  leftD : ∀ x y, x < most - i → y < most - i → x ≠ y → L x ≠ L y
  out : ∀ a, a < i → ns a < most
  outD : ∀ a b, a < i → b < i → a ≠ b → ns a ≠ ns b
  both : ∀ a x, a < i → x < most - i → ns a ≠ L x
theorem Sorts.start (most : Nat) : Sorts most 0 (fun i => i) (fun _ => 0) :=
  ⟨fun x h => by omega, fun x y _ _ h => h, fun a h => by omega, fun a b h => by omega, fun a x h => by omega⟩
theorem Sorts.step {most i : Nat} {L ns : Nat → Nat} (h : Sorts most i L ns) (hi : i < most) (j : Nat) (hj : j < most - i) :
    Sorts most (i + 1) (fun x => if x = j then L (most - i - 1) else L x) (fun a => if a = i then L j else ns a) := by
  refine ⟨fun x hx => ?_, fun x y hx hy hne => ?_, fun a ha => ?_, fun a b ha hb hne => ?_, fun a x ha hx => ?_⟩
  · show (if x = j then L (most - i - 1) else L x) < most
    split
    · exact h.left _ (by omega)
    · exact h.left _ (by omega)
  · show (if x = j then L (most - i - 1) else L x) ≠ (if y = j then L (most - i - 1) else L y)
    by_cases e1 : x = j
    · by_cases e2 : y = j
      · omega
      · rw [if_pos e1, if_neg e2]; exact h.leftD _ _ (by omega) (by omega) (by omega)
    · by_cases e2 : y = j
      · rw [if_neg e1, if_pos e2]; exact h.leftD _ _ (by omega) (by omega) (by omega)
      · rw [if_neg e1, if_neg e2]; exact h.leftD _ _ (by omega) (by omega) hne
  · show (if a = i then L j else ns a) < most
    split
    · exact h.left _ hj
    · exact h.out _ (by omega)
  · show (if a = i then L j else ns a) ≠ (if b = i then L j else ns b)
    by_cases e1 : a = i
    · by_cases e2 : b = i
      · omega
      · rw [if_pos e1, if_neg e2]; exact fun e => h.both b j (by omega) hj e.symm
    · by_cases e2 : b = i
      · rw [if_neg e1, if_pos e2]; exact h.both a j (by omega) hj
      · rw [if_neg e1, if_neg e2]; exact h.outD _ _ (by omega) (by omega) hne
  · show (if a = i then L j else ns a) ≠ (if x = j then L (most - i - 1) else L x)
    by_cases e1 : a = i
    · rw [if_pos e1]
      split
      · exact h.leftD _ _ hj (by omega) (by omega)
      · exact h.leftD _ _ hj (by omega) (by omega)
    · rw [if_neg e1]
      split
      · exact h.both _ _ (by omega) (by omega)
      · exact h.both _ _ (by omega) (by omega)

/-- a row that is owned, as a row -/
theorem own_row {w : World} {base e n : Nat} {v : Value} {f : Nat → Value} (h : w.ownsRow base e 1 v n (vals f n)) (hn : 0 < n) :
    ∃ b cap, v = .slice (some ⟨b, 0, none⟩) n cap ∧ base ≤ b ∧ n ≤ cap ∧ cap ≤ maxLen ∧ ∃ F : Nat → Value, w.rowIs b e cap F ∧ ∀ i, i < n → F i = f i := by
  rcases h.2 with ⟨_, h0⟩ | ⟨b, cap, cur, hv, hb, hg, hnc, hcm, hcs, htake⟩
  · omega
  · refine ⟨b, cap, hv, hb, hnc, hcm, fun i => cur.getD i (.int .i64 0), ⟨cur, hg, by omega, fun i hi => by simp [Array.getD, show i < cur.size by omega]⟩, fun i hi => ?_⟩
    have h1 : (cur.toList.take (n * 1))[i]? = some (f i) := by rw [htake]; exact vals_get f n i hi
    rw [List.getElem?_take, if_pos (by omega)] at h1
    have hl : i < cur.size := by omega
    simp only [Array.getElem?_toList, Array.getElem?_eq_getElem hl, Option.some.injEq] at h1
    simp [Array.getD, hl, h1]

theorem vals_if (ns : Nat → Nat) (x i : Nat) : vals (fun a => .int .i64 ((if a = i then x else ns a : Nat))) i = vals (fun a => .int .i64 (ns a : Nat)) i := by
  unfold vals
  exact List.map_congr_left (fun a ha => by simp [show ¬ a = i from by have := List.mem_range.1 ha; omega])
theorem row_kept_ne {w w1 : World} {v : Value} {b t n : Nat} {f : Nat → Value} {o : Obj} (h : w.rowIs b t n f) (hg : (w.alloc o).grownBy w1 v.ownBlock) (hne : v.ownBlock ≠ some b) : w1.rowIs b t n f := by
  refine h.of_block ?_
  rw [hg.block b (by have := h.lt; simp; omega) (fun e => hne e.symm)]
  exact Below.heap_alloc w o b h.lt
theorem own_set {w : World} {base e n g a : Nat} {v u : Value} {xs : List Value} (h : w.ownsRow base e 1 v n xs) (hne : v.ownBlock ≠ some g) : (w.setCell ⟨g, a, none⟩ u).ownsRow base e 1 v n xs := by
  refine h.kept (row := some g) ⟨rfl, rfl, rfl, by simp [World.setCell], fun k _ hk => Below.heap_setCell w ⟨g, a, none⟩ u k (fun e => hk (by rw [e]))⟩ (.inr hne)

set_option maxRecDepth 100000 in
set_option maxHeartbeats 4000000 in
theorem chosen_any (ao : Option Addr) (n cap k most : Nat) (zs : Nat → Int) (w : World) (hn : n ≤ maxLen) (hk : k ≤ most) (hm0 : 0 < most) (hm : most ≤ 16) (hl : Lies w ao n zs) (hzs : ∀ i, i < n → -9223372036854775808 ≤ zs i ∧ zs i ≤ 9223372036854775807) :
    Calls Try.prog 36 #[.slice ao n cap, .int .i64 k, .int .i64 most] w fun e w' => ∃ (v : Value) (ns : Nat → Nat), e = .returned v ∧ (∀ a, a < k → ns a < most) ∧ (∀ a b, a < k → b < k → a ≠ b → ns a ≠ ns b) ∧ w'.ownsRow w.heap.size 3 1 v k (vals (fun i => .int .i64 (ns i : Nat)) k) ∧ Below w.heap.size w w' := by
  unfold maxLen at hn
  obtain ⟨i0, hi, hz0, hz1, hz2⟩ := info_parts infoInt
  have HL : Hid (Lies w ao n zs) := hl
  have HZ : Hid (∀ i, i < n → -9223372036854775808 ≤ zs i ∧ zs i ≤ 9223372036854775807) := hzs
  clear hl hzs
  go_enter Try.func36, Try.ntmps36
  go_wp2
  go_loopw [7, 8] (fun v i wr => ∃ j : Nat, j ≤ most ∧ i = .int .i64 j ∧ wr.ownsRow w.heap.size 3 1 v j (ints j) ∧ Below w.heap.size w wr) (fun _ i _ => most - (intOf i).toNat)
  case atStart => exact ⟨0, Nat.zero_le _, rfl, World.ownsRow_nil _ _ _ _, Below.refl _ _⟩
  case round =>
    obtain ⟨j, hj, rfl, hown, hnx⟩ := hrel
    have hsz := hnx.size
    by_cases hlt : j < most
    · go_wp2_with (at_builtin; refine wpList_append_own _ rfl _ _ 33 rfl w.heap.size 3 i0 (.int .i64 0) 1 8 Try.underlying33 hi hz0 hz1 hz2 rfl (by decide) _ _ _ rfl (hown.alloc _) ⟨wr.heap.size, 0, none⟩ 1 1 [.int .i64 (j : Nat)] rfl rfl one_news ?c2 ?c3 ?c4 ?c5 ?_)
      case c2 => intro u hu; simp at hu; subst hu; rfl
      case c3 => unfold maxLen; omega
      case c4 => omega
      case c5 => simp; omega
      · intro v' w1 hown' hgrow _
        have hb := below_append hnx hsz hown hgrow
        rw [← ints_succ] at hown'
        clear hown hgrow hnx
        go_wp2
        go_roundw
        case rel => exact ⟨j + 1, by omega, by go_num, hown', hb⟩
        case measure => simp [intOf]; omega
    · obtain rfl : j = most := by omega
      rw [ints_vals] at hown
      obtain ⟨g, gc, rfl, hg1, hgc, hgm, F, hF, hFe⟩ := own_row hown hm0
      unfold maxLen at hgm
      have hgl := hF.lt
      clear hown
      go_wp2
      go_loopw [7, 9, 10] (fun l v x wr => ∃ (i m : Nat) (L ns : Nat → Nat) (F : Nat → Value), i ≤ k ∧ i + m = j ∧ x = .int .i64 i ∧ l = .slice (some ⟨g, 0, none⟩) m gc ∧ Sorts j i L ns ∧ wr.rowIs g 3 gc F ∧ (∀ y, y < m → F y = .int .i64 (L y : Nat)) ∧ wr.ownsRow w.heap.size 3 1 v i (vals (fun i => .int .i64 (ns i : Nat)) i) ∧ v.ownBlock ≠ some g ∧ Below w.heap.size w wr) (fun _ _ x _ => k - (intOf x).toNat)
      case atStart => exact ⟨0, j, fun i => i, fun _ => 0, F, Nat.zero_le _, by omega, rfl, rfl, Sorts.start j, hF, hFe, World.ownsRow_nil _ _ _ _, by simp [Value.ownBlock], hnx⟩
      case round =>
        clear hF hFe hnx hgl hsz
        obtain ⟨i, m, L, ns, F, hik, him, rfl, rfl, hS, hF, hFe, hown, hne, hnx⟩ := hrel
        have hsz := hnx.size
        have HS : Hid (Sorts j i L ns) := hS
        have HFE : Hid (∀ y, y < m → F y = .int .i64 (L y : Nat)) := hFe
        have HIM : Hid (i + m = j) := him
        have hmg : m ≤ gc := by omega
        clear hS hFe
        by_cases hlk : i < k
        · obtain ⟨p, rfl⟩ : ∃ p, m = p + 1 := ⟨m - 1, by omega⟩
          have hp16 : p + 1 ≤ 16 := by omega
          clear him
          have HN : Hid (wr.ownsRow w.heap.size 3 1 u9 i (vals (fun i => .int .i64 (ns i : Nat)) i)) := hown
          by_cases hli : i < n
          · rcases HL.out with h0 | ⟨b, off, rfl, hbl, hc⟩
            · omega
            · have ci := (hnx.cell (p := ⟨b, off + i, none⟩) hbl).trans (hc i hli)
              have hz := HZ.out i hli
              have HP := pick_any (zs i) (p + 1) wr hz.1 hz.2 (by omega) (by omega)
              clear hc hz
              go_wp2_with fail
              refine HP.mono ?_
              rintro e w' ⟨⟨r, hr, rfl⟩, rfl⟩
              clear HP ci HN
              have er : F r = .int .i64 (L r : Nat) := HFE.out r (by omega)
              have ep : F p = .int .i64 (L p : Nat) := HFE.out p (by omega)
              have cr : w'.cell? ⟨g, r, none⟩ = some (.int .i64 (L r : Nat)) := by rw [hF.cell (by omega), er]
              clear er
              go_wp2_with (at_builtin; refine App.wpList_append_apart _ rfl _ _ 33 rfl w.heap.size 3 i0 (.int .i64 0) 1 8 Try.underlying33 hi hz0 hz1 hz2 rfl (by decide) _ _ _ rfl (hown.alloc _) ⟨w'.heap.size, 0, none⟩ 1 1 [.int .i64 (L r : Nat)] rfl rfl one_news (fun u hu => by simp at hu; subst hu; rfl) (by unfold maxLen; omega) (by omega) (by simp; omega) ?_ (by decide))
              intro v' w1 hown' hgrow hap
              have hb1 := below_append hnx hsz hown hgrow
              have R1 := row_kept_ne hF hgrow hne
              have hne1 := App.apart_ne hap hF.lt hne
              have c1p : w1.cell? ⟨g, p, none⟩ = some (.int .i64 (L p : Nat)) := by rw [R1.cell (by omega), ep]
              have c1r := R1.cell (i := r) (by omega)
              have f1r := R1.frozen r
              have O2 := own_set (g := g) (a := r) (u := .int .i64 (L p : Nat)) hown' hne1
              have R2 := R1.set r (.int .i64 (L p : Nat))
              have hgw : w.heap.size ≤ g := hg1
              have B2 := hb1.setCell (p := ⟨g, r, none⟩) hgw (.int .i64 (L p : Nat))
              have HO2 : Hid ((w1.setCell ⟨g, r, none⟩ (.int .i64 (L p : Nat))).ownsRow w.heap.size 3 1 v' (i + 1) (vals (fun a => .int .i64 ((if a = i then L r else ns a : Nat))) (i + 1))) := by
                unfold Hid
                rw [vals_succ, vals_if]
                simpa using O2
              have HS2 : Hid (Sorts j (i + 1) (fun x => if x = r then L p else L x) (fun a => if a = i then L r else ns a)) := by
                have h := HS.out.step (by have := HIM.out; omega) r (by have := HIM.out; omega)
                rw [show j - i - 1 = p from by have := HIM.out; omega] at h
                exact h
              have HF2 : Hid (∀ y, y < p → (fun x => if x = r then Value.int .i64 (L p : Nat) else F x) y = .int .i64 ((if y = r then L p else L y : Nat))) := fun y hy => by
                by_cases e : y = r
                · simp [e]
                · simp [e, HFE.out y (by omega)]
              clear hown hown' hgrow hap hb1 R1 hF hnx hne ep cr O2
              go_wp2
              go_roundw
              case rel => exact ⟨i + 1, p, _, _, _, by omega, by have := HIM.out; omega, by go_num, rfl, HS2.out, R2, HF2.out, HO2.out, hne1, B2⟩
              case measure => simp [intOf]; omega
          · have HP := pick_any 0 (p + 1) wr (by omega) (by omega) (by omega) (by omega)
            go_wp2_with fail
            refine HP.mono ?_
            rintro e w' ⟨⟨r, hr, rfl⟩, rfl⟩
            clear HP HN
            have er : F r = .int .i64 (L r : Nat) := HFE.out r (by omega)
            have ep : F p = .int .i64 (L p : Nat) := HFE.out p (by omega)
            have cr : w'.cell? ⟨g, r, none⟩ = some (.int .i64 (L r : Nat)) := by rw [hF.cell (by omega), er]
            clear er
            go_wp2_with (at_builtin; refine App.wpList_append_apart _ rfl _ _ 33 rfl w.heap.size 3 i0 (.int .i64 0) 1 8 Try.underlying33 hi hz0 hz1 hz2 rfl (by decide) _ _ _ rfl (hown.alloc _) ⟨w'.heap.size, 0, none⟩ 1 1 [.int .i64 (L r : Nat)] rfl rfl one_news (fun u hu => by simp at hu; subst hu; rfl) (by unfold maxLen; omega) (by omega) (by simp; omega) ?_ (by decide))
            intro v' w1 hown' hgrow hap
            have hb1 := below_append hnx hsz hown hgrow
            have R1 := row_kept_ne hF hgrow hne
            have hne1 := App.apart_ne hap hF.lt hne
            have c1p : w1.cell? ⟨g, p, none⟩ = some (.int .i64 (L p : Nat)) := by rw [R1.cell (by omega), ep]
            have c1r := R1.cell (i := r) (by omega)
            have f1r := R1.frozen r
            have O2 := own_set (g := g) (a := r) (u := .int .i64 (L p : Nat)) hown' hne1
            have R2 := R1.set r (.int .i64 (L p : Nat))
            have hgw : w.heap.size ≤ g := hg1
            have B2 := hb1.setCell (p := ⟨g, r, none⟩) hgw (.int .i64 (L p : Nat))
            have HO2 : Hid ((w1.setCell ⟨g, r, none⟩ (.int .i64 (L p : Nat))).ownsRow w.heap.size 3 1 v' (i + 1) (vals (fun a => .int .i64 ((if a = i then L r else ns a : Nat))) (i + 1))) := by
              unfold Hid
              rw [vals_succ, vals_if]
              simpa using O2
            have HS2 : Hid (Sorts j (i + 1) (fun x => if x = r then L p else L x) (fun a => if a = i then L r else ns a)) := by
              have h := HS.out.step (by have := HIM.out; omega) r (by have := HIM.out; omega)
              rw [show j - i - 1 = p from by have := HIM.out; omega] at h
              exact h
            have HF2 : Hid (∀ y, y < p → (fun x => if x = r then Value.int .i64 (L p : Nat) else F x) y = .int .i64 ((if y = r then L p else L y : Nat))) := fun y hy => by
              by_cases e : y = r
              · simp [e]
              · simp [e, HFE.out y (by omega)]
            clear hown hown' hgrow hap hb1 R1 hF hnx hne ep cr O2
            go_wp2
            go_roundw
            case rel => exact ⟨i + 1, p, _, _, _, by omega, by have := HIM.out; omega, by go_num, rfl, HS2.out, R2, HF2.out, HO2.out, hne1, B2⟩
            case measure => simp [intOf]; omega
        · obtain rfl : i = k := by omega
          go_wp2
          go_ret
          exact ⟨_, ns, rfl, HS.out.out, HS.out.outD, hown, hnx⟩
end Kp
end Go.Proofs.Ytkgnmcekeeannaa
