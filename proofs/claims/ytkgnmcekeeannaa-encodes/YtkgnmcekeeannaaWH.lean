import Derived.Test.YtkgnmcekeeannaaWG
import Derived.Test.YtkgnmcekeeannaaApp
namespace Go.Proofs.Ytkgnmcekeeannaa
open Go.RowKit
namespace Cod
open Pol (G fm fi prodBut share lag sumTo)
open Fld (ret_int val_int i64_xor_nat)

def bv (x : G) : Value := .int .u8 x.toNat
def flat (size : Nat) (f : Nat → Nat → G) : Nat → List G
  | 0 => []
  | c + 1 => flat size f c ++ (List.range size).map (f c)
theorem flat_length (size : Nat) (f : Nat → Nat → G) : ∀ c, (flat size f c).length = c * size
  | 0 => by simp [flat]
  | c + 1 => by simp only [flat, List.length_append, flat_length size f c, List.length_map, List.length_range, Nat.succ_mul]
def part (size : Nat) (f : Nat → Nat → G) (c p : Nat) : List G := flat size f c ++ (List.range p).map (f c)
theorem part_length (size : Nat) (f : Nat → Nat → G) (c p : Nat) : (part size f c p).length = c * size + p := by simp [part, flat_length]
theorem part_zero (size : Nat) (f : Nat → Nat → G) (c : Nat) : part size f c 0 = flat size f c := by simp [part]
theorem part_size (size : Nat) (f : Nat → Nat → G) (c : Nat) : part size f c size = flat size f (c + 1) := rfl
theorem part_succ (size : Nat) (f : Nat → Nat → G) (c p : Nat) : part size f c (p + 1) = part size f c p ++ [f c p] := by simp [part, List.range_succ]

theorem conv_own {w : World} {base n : Nat} {v : Value} (l : List G) (h : w.ownsRow base 5 1 v n (l.map bv)) : (convert 97 9 v).run Try.prog w = .ok (.string ⟨l.toArray⟩) w := by
  have hn : l.length = n := by have := h.1; simpa using this
  rcases h.2 with ⟨rfl, rfl⟩ | ⟨b, cap, cur, rfl, hb, hg, hnc, hcm, _⟩
  · have : l = [] := List.length_eq_zero_iff.1 hn
    subst this
    rw [run_convert_bytes_string w 97 9 5 none 0 0 Try.underlying97 Try.underlying5 Try.underlying9]; rfl
  · subst hn
    refine run_convert_bytes_back w 97 9 5 ⟨b, 0, none⟩ cap l Try.underlying97 Try.underlying5 Try.underlying9 (fun j hj => ?_)
    exact h.cells (g := b) rfl j _ (by simp [bv, hj])

def symF (n : Nat) (ns : Nat → Nat) (s : ByteArray) (size first c p : Nat) : G := lag n (gx ns) (fun i => byteAt s (i * size + p)) (g (first + c))

set_option maxHeartbeats 2000000 in
theorem symbolsFrom_nat (first count n b off cap size : Nat) (ns : Nat → Nat) (s : ByteArray) (w : World) (hfc : first + count ≤ 16) (hns : ∀ i, i < n → ns i < 16) (hb : b < w.heap.size) (hn : n ≤ 8) (hn0 : 0 < n)
    (hs1 : 1 ≤ size) (hs16 : size ≤ 16) (hs : s.size = n * size) (hcell : ∀ i, i < n → w.cell? ⟨b, off + i, none⟩ = some (.int .i64 (ns i))) :
    Calls Try.prog 65 #[.int .i64 first, .int .i64 count, .slice (some ⟨b, off, none⟩) n cap, .string s, .int .i64 size] w
      fun e w' => e = .returned (.string ⟨(flat size (symF n ns s size first) count).toArray⟩) ∧ Below w.heap.size w w' := by
  obtain ⟨i0, hi, hz0, hz1, hz2⟩ := info_parts infoByte
  have HO : (w.alloc (Obj.cells #[] 5)).ownsRow w.heap.size 5 1 (.slice (some ⟨w.heap.size, 0, none⟩) 0 0) (0 * size) ((flat size (symF n ns s size first) 0).map bv) := by
    rw [Nat.zero_mul]; exact World.ownsRow_made w #[] 0 (Nat.le_refl _) (by decide) rfl
  go_enter Try.func65, Try.ntmps65
  go_wp2
  go_loopw [11, 12] (fun v t wr => ∃ c : Nat, c ≤ count ∧ t = .int .i64 (first + c : Nat) ∧ wr.ownsRow w.heap.size 5 1 v (c * size) ((flat size (symF n ns s size first) c).map bv) ∧ Below w.heap.size w wr) (fun _ t _ => first + count - (intOf t).toNat)
  case atStart => exact ⟨0, Nat.zero_le _, rfl, HO, (Below.refl _ _).alloc (Nat.le_refl _) _⟩
  case round =>
    obtain ⟨c, hc, rfl, hown, hnx⟩ := hrel
    clear HO
    have hsz := hnx.size
    by_cases hlt : c < count
    · have hcr : ∀ i, i < n → wr.cell? ⟨b, off + i, none⟩ = some (.int .i64 (ns i)) := fun i hi => (hnx.cell (p := ⟨b, off + i, none⟩) hb).trans (hcell i hi)
      have HC := sharesAt_nat (first + c) n b off cap ns wr (by omega) hns (by omega) hn hcr
      clear hcr hcell hns
      obtain ⟨T, hT⟩ : ∃ T, T = first + c := ⟨_, rfl⟩
      rw [← hT] at HC
      rw [← hT]
      have hTl : (T : Int) < (first : Int) + (count : Int) := by omega
      have hTf : first ≤ T := by omega
      have HT : Hid (T = first + c) := hT
      clear hT
      go_wp2_with fail
      refine HC.mono ?_
      rintro e w' ⟨v, rfl, hsv, hbel⟩
      clear HC
      obtain ⟨sb, scap, rfl, hsb1, hsb2, _, _, hsc⟩ := row_cells hsv hn0
      have hown1 : w'.ownsRow w.heap.size 5 1 u11 (c * size) ((part size (symF n ns s size first) c 0).map bv) := by
        rw [part_zero]
        exact hown.kept (row := none) ⟨hbel.os, hbel.tape, hbel.output, hbel.size, fun k hk _ => hbel.block k hk⟩ (by cases u11.ownBlock <;> simp)
      have hne : u11.ownBlock ≠ some sb := fun e => by have := (hown.lt sb e).2; omega
      have hb1 : Below w.heap.size w w' := hnx.trans (hbel.mono hsz)
      have hsz1 : w.heap.size ≤ w'.heap.size := hb1.size
      clear hown hnx hsz hbel hsv
      go_wp2
      go_loopw [11, 14] (fun v i wr => ∃ p : Nat, p ≤ size ∧ i = .int .i64 p ∧ wr.ownsRow w.heap.size 5 1 v (c * size + p) ((part size (symF n ns s size first) c p).map bv) ∧ v.ownBlock ≠ some sb ∧ sb < wr.heap.size ∧ (∀ i, i < n → wr.cell? ⟨sb, i, none⟩ = some (u8v (share n (gx ns) (g T)) i)) ∧ Below w.heap.size w wr) (fun _ i _ => size - (intOf i).toNat)
      case atStart => exact ⟨0, Nat.zero_le _, rfl, hown1, hne, hsb2, hsc, hb1⟩
      case round =>
        obtain ⟨p, hp, rfl, hown, hne, hsb2, hsc, hnx⟩ := hrel
        clear hown1 hb1
        have hsz := hnx.size
        by_cases hlp : p < size
        · have HV := valueAt_nat p n sb scap size (share n (gx ns) (g T)) s wr hlp hs16 hn hs hsc
          have HF : Hid (symF n ns s size first c p = sumTo n (fun i => fm (share n (gx ns) (g T) i) (byteAt s (i * size + p)))) := by
            unfold Hid; rw [HT.out]; rfl
          have HSC : Hid (∀ i, i < n → wr.cell? ⟨sb, i, none⟩ = some (u8v (share n (gx ns) (g T)) i)) := hsc
          have HSS : Hid (s.size = n * size) := hs
          clear hsc hs
          go_wp2_with fail
          refine HV.mono ?_
          rintro e w2 ⟨rfl, m, rfl⟩
          clear HV
          have hownd : (wr.drewN m).ownsRow w.heap.size 5 1 u11 (c * size + p) ((part size (symF n ns s size first) c p).map bv) := hown
          have hnxd : Below w.heap.size w (wr.drewN m) := below_drewN hnx m
          have hszd : w.heap.size ≤ (wr.drewN m).heap.size := hsz
          have hsbd : sb < (wr.drewN m).heap.size := hsb2
          have HSD : Hid (∀ i, i < n → (wr.drewN m).cell? ⟨sb, i, none⟩ = some (u8v (share n (gx ns) (g T)) i)) := HSC.out
          clear hown hnx hsz hsb2 HSC
          generalize wr.drewN m = wx at *
          have HBV : Hid (bv (symF n ns s size first c p) = .int .u8 (sumTo n (fun i => fm (share n (gx ns) (g T) i) (byteAt s (i * size + p)))).toNat) := by unfold Hid bv; rw [HF.out]
          generalize sumTo n (fun i => fm (share n (gx ns) (g T) i) (byteAt s (i * size + p))) = V at *
          have hcs : c * size ≤ 16 * 16 := Nat.mul_le_mul (by omega) hs16
          go_wp2_with (at_builtin; refine App.wpList_append_apart _ rfl _ _ 97 rfl w.heap.size 5 i0 (.int .u8 0) 1 1 Try.underlying97 hi hz0 hz1 hz2 rfl (by decide) _ _ _ rfl (hownd.alloc _) ⟨wx.heap.size, 0, none⟩ 1 1 [.int .u8 V.toNat] rfl rfl one_news ?c2 ?c3 ?c4 ?c5 ?_ (by decide))
          case c2 => intro u hu; simp at hu; subst hu; rfl
          case c3 => unfold maxLen; omega
          case c4 => omega
          case c5 => simp; omega
          · intro v' w1 hown' hgrow hap
            have hb2 := below_append hnxd hszd hownd hgrow
            have hown2 : w1.ownsRow w.heap.size 5 1 v' (c * size + (p + 1)) ((part size (symF n ns s size first) c (p + 1)).map bv) := by
              rw [part_succ, List.map_append, List.map_cons, List.map_nil, HBV.out]; exact hown'
            have hne2 := App.apart_ne hap hsbd hne
            have hsb3 : sb < w1.heap.size := Nat.lt_of_lt_of_le hsbd (by have := hgrow.size; simp at this; omega)
            have HS3 : Hid (∀ i, i < n → w1.cell? ⟨sb, i, none⟩ = some (u8v (share n (gx ns) (g T)) i)) := fun i hi => App.cells_stay hgrow hsbd hne (HSD.out i hi) rfl
            clear hownd hgrow hnxd hown' hap hne HSD hszd
            go_wp2
            go_roundw
            case rel => exact ⟨p + 1, by omega, by go_num, hown2, hne2, hsb3, HS3.out, hb2⟩
            case measure => simp [intOf]; omega
        · have e : p = size := by omega
          subst e
          have hown2 : wr.ownsRow w.heap.size 5 1 u11 ((c + 1) * p) ((flat p (symF n ns s p first) (c + 1)).map bv) := by
            rw [← part_size, Nat.succ_mul]; exact hown
          clear hown hsc hs
          go_wp2
          go_roundw
          case rel => exact ⟨c + 1, by omega, by have := HT.out; go_num, hown2, hnx⟩
          case measure => have := HT.out; simp [intOf]; omega
    · have e : c = count := by omega
      subst e
      have hcv := conv_own _ hown
      clear hcell hns hs
      go_wp2
      go_ret
      exact ⟨rfl, hnx⟩
end Cod
end Go.Proofs.Ytkgnmcekeeannaa
