import Derived.Test.YtkgnmcekeeannaaGreatY10
namespace Go.Proofs.YtkgnmcekeeannaaGreat
open Go.RowKit Go.Deep
namespace Cod
open Pol (G fm fi prodBut share lag sumTo pw gauss gstep factor coef)
open Fld (ret_int val_int i64_xor_nat)

theorem coef_drop (k : Nat) (q : Nat → G) (j : Nat) (h : j < k) : (coef k q).drop j = q j :: (coef k q).drop (j + 1) := by
  rw [List.drop_eq_getElem_cons (by rw [Pol.coef_length]; exact h)]
  simp [coef]

set_option maxHeartbeats 1000000 in
theorem value_nat (k b cap t : Nat) (q : Nat → G) (w : World) (hk : k ≤ 8) (ht : t < 256) (hcell : ∀ i, i < k → w.cell? ⟨b, i, none⟩ = some (.int .i64 (q i).toNat)) :
    Calls Tryz.prog 68 #[.slice (some ⟨b, 0, none⟩) k cap, .int .i64 t] w fun e w' => e = .returned (.int .i64 (Pol.eval (g t) (coef k q)).toNat) ∧ ∃ m, w' = w.drewN m := by
  have HC : Hid (∀ i, i < k → w.cell? ⟨b, i, none⟩ = some (.int .i64 (q i).toNat)) := hcell
  clear hcell
  go_enter Tryz.func68, Tryz.ntmps68
  go_wp2
  go_loopw [5, 6] (fun n i wr => ∃ j : Nat, j ≤ k ∧ i = .int .i64 ((j : Int) - 1) ∧ n = .int .i64 (Pol.eval (g t) ((coef k q).drop j)).toNat ∧ ∃ m, wr = w.drewN m) (fun _ i _ => (intOf i + 1).toNat)
  case atStart => exact ⟨k, Nat.le_refl _, rfl, val_int (by rw [List.drop_of_length_le (by rw [Pol.coef_length]; omega)]; rfl), 0, rfl⟩
  case round =>
    obtain ⟨j, hj, rfl, rfl, hwr⟩ := hrel
    have HW : Hid (∃ m, wr = w.drewN m) := hwr
    have hcr : ∀ i, i < k → wr.cell? ⟨b, i, none⟩ = some (.int .i64 (q i).toNat) := by
      obtain ⟨m, rfl⟩ := hwr; exact HC.out
    clear hwr
    by_cases hj0 : 0 < j
    · obtain ⟨i, rfl⟩ : ∃ i, j = i + 1 := ⟨j - 1, by omega⟩
      have ei : ((i + 1 : Nat) : Int) - 1 = (i : Int) := by omega
      rw [ei]
      have cc := hcr i (by omega)
      have HE : Hid (Pol.eval (g t) ((coef k q).drop i) = fm (Pol.eval (g t) ((coef k q).drop (i + 1))) (g t) ^^^ q i) := by unfold Hid; rw [coef_drop k q i (by omega)]; rfl
      have HT : Hid (((t : Nat) : Int) = ((g t).toNat : Int)) := by unfold Hid; rw [toNat_g ht]
      clear ei hcr
      generalize Pol.eval (g t) ((coef k q).drop (i + 1)) = A at *
      have hx := gxor (fm A (g t)) (q i)
      go_wp2_with fail
      refine (prod_g A (g t) _ _ _ rfl HT.out).mono ?_
      rintro e w' ⟨rfl, m, rfl⟩
      go_wp2
      go_roundw
      case rel => exact ⟨i, by omega, by go_num, by rw [HE.out, UInt8.toNat_xor], drawn_more HW.out⟩
      case measure => simp [intOf]
    · obtain rfl : j = 0 := by omega
      clear hcr
      go_wp2
      go_ret
      exact ⟨rfl, HW.out⟩

set_option maxHeartbeats 400000 in
theorem refNumbers_nat (k : Nat) (w : World) (hk : k ≤ 8) :
    Calls Tryz.prog 77 #[.int .i64 k] w fun e w' => ∃ v, e = .returned v ∧ w'.ownsRow w.heap.size 3 1 v k (ints k) ∧ Below w.heap.size w w' := by
  obtain ⟨i0, hi, hz0, hz1, hz2⟩ := info_parts infoInt
  go_enter Tryz.func77, Tryz.ntmps77
  go_wp2
  go_loopw [3, 4] (fun v i wr => ∃ j : Nat, j ≤ k ∧ i = .int .i64 j ∧ wr.ownsRow w.heap.size 3 1 v j (ints j) ∧ Below w.heap.size w wr) (fun _ i _ => k - (intOf i).toNat)
  case atStart => exact ⟨0, Nat.zero_le _, rfl, World.ownsRow_nil _ _ _ _, Below.refl _ _⟩
  case round =>
    obtain ⟨j, hj, rfl, hown, hnx⟩ := hrel
    have hsz := hnx.size
    by_cases hlt : j < k
    · go_wp2_with (at_builtin; refine wpList_append_own _ rfl _ _ 105 rfl w.heap.size 3 i0 (.int .i64 0) 1 8 Tryz.underlying105 hi hz0 hz1 hz2 rfl (by decide) _ _ _ rfl (hown.alloc _) ⟨wr.heap.size, 0, none⟩ 1 1 [.int .i64 (j : Nat)] rfl rfl one_news ?c2 ?c3 ?c4 ?c5 ?_)
      case c2 => intro u hu; simp at hu; subst hu; rfl
      case c3 => unfold maxLen; omega
      case c4 => omega
      case c5 => simp; omega
      · intro v' w1 hown' hgrow _
        have hb := below_append hnx hsz hown hgrow
        rw [← ints_succ] at hown'
        clear hown hgrow hnx
        go_wp2
        go_roundw
        case rel => exact ⟨j + 1, by omega, by go_num, hown', hb⟩
        case measure => simp [intOf]; omega
    · have e : j = k := by omega
      subst e
      go_wp2
      go_ret
      exact ⟨_, rfl, hown, hnx⟩

theorem flat_get (size : Nat) (f : Nat → Nat → G) : ∀ c a, a < c * size → (flat size f c)[a]? = some (f (a / size) (a % size))
  | 0, a, h => by simp at h
  | c + 1, a, h => by
    have hs : 0 < size := by
      rcases Nat.eq_zero_or_pos size with e | e
      · subst e; simp at h
      · exact e
    simp only [flat]
    by_cases h1 : a < c * size
    · rw [List.getElem?_append_left (by rw [flat_length]; exact h1), flat_get size f c a h1]
    · rw [List.getElem?_append_right (by rw [flat_length]; omega), flat_length]
      have hd : a / size = c := by
        rw [Nat.div_eq_iff hs]
        rw [Nat.succ_mul] at h
        exact ⟨by omega, by omega⟩
      have hm : a % size = a - c * size := by
        have := Nat.div_add_mod a size
        rw [hd, Nat.mul_comm] at this
        omega
      have hl : a - c * size < size := by rw [Nat.succ_mul] at h; omega
      rw [List.getElem?_map, List.getElem?_range hl, hd, hm]
      rfl

/-- a row of bytes, as a text -/
theorem conv_row {w : World} {b n cap : Nat} {f : Nat → Value} (l : List G) (hn : l.length = n) (h : w.rowIs b 5 n f) (hf : ∀ i, i < n → ∀ x, l[i]? = some x → f i = bv x) :
    (convert 76 9 (.slice (some ⟨b, 0, none⟩) n cap)).run Tryz.prog w = .ok (.string ⟨l.toArray⟩) w := by
  subst hn
  refine run_convert_bytes_back w 76 9 5 ⟨b, 0, none⟩ cap l Tryz.underlying76 Tryz.underlying5 Tryz.underlying9 (fun j hj => ?_)
  have e : (⟨b, 0, none⟩ : Addr).add j = ⟨b, j, none⟩ := by
    unfold Addr.add
    by_cases e : j = 0
    · subst e; rfl
    · simp [e]
  rw [e, h.cell hj, hf j hj l[j] (by simp [hj])]
  rfl
/-- the row of bytes as it is filled: every place ahead of place p, and of place p the first j -/
def filled (size : Nat) (F : Nat → Nat → G) (p j a : Nat) : Value := if a % size < p ∨ (a % size = p ∧ a / size < j) then bv (F (a / size) (a % size)) else .int .u8 0
theorem filled_next (size count : Nat) (F : Nat → Nat → G) (p : Nat) (a : Nat) (ha : a < count * size) : filled size F p count a = filled size F (p + 1) 0 a := by
  unfold filled
  have : a / size < count := Nat.div_lt_of_lt_mul (by rw [Nat.mul_comm]; exact ha)
  clear ha
  congr 1
  simp only [eq_iff_iff]
  generalize a / size = d at *
  generalize a % size = m at *
  omega
theorem filled_set (size : Nat) (F : Nat → Nat → G) (p j : Nat) (hp : p < size) (a : Nat) : (if a = j * size + p then bv (F j p) else filled size F p j a) = filled size F p (j + 1) a := by
  have hd : (j * size + p) / size = j := by rw [Nat.mul_comm, Nat.mul_add_div (by omega), Nat.div_eq_of_lt hp]; omega
  have hm : (j * size + p) % size = p := by rw [Nat.mul_comm, Nat.mul_add_mod, Nat.mod_eq_of_lt hp]
  by_cases e : a = j * size + p
  · subst e; simp [filled, hd, hm]
  · rw [if_neg e]
    unfold filled
    have h := Nat.div_add_mod a size
    congr 1
    simp only [eq_iff_iff]
    constructor
    · omega
    · rintro (h1 | ⟨h1, h2⟩)
      · exact .inl h1
      · refine .inr ⟨h1, ?_⟩
        rcases Nat.lt_or_eq_of_le (Nat.le_of_lt_succ h2) with h3 | h3
        · exact h3
        · exact absurd (by rw [← h, h1, h3, Nat.mul_comm]) e

theorem row_kept {w w1 : World} {v : Value} {b t n : Nat} {f : Nat → Value} {o : Obj} (h : w.rowIs b t n f) (hg : (w.alloc o).grownBy w1 v.ownBlock) (hne : ∀ k, v.ownBlock = some k → b < k) : w1.rowIs b t n f := by
  refine h.of_block ?_
  rw [hg.block b (by have := h.lt; simp; omega) (fun e => by have := hne b e.symm; omega)]
  exact Below.heap_alloc w o b h.lt

theorem value_at (k b cap t : Nat) (a : Int) (q : Nat → G) (w : World) (ha : a = (t : Int)) (hk : k ≤ 8) (ht : t < 256) (hcell : ∀ i, i < k → w.cell? ⟨b, i, none⟩ = some (.int .i64 (q i).toNat)) :
    Calls Tryz.prog 68 #[.slice (some ⟨b, 0, none⟩) k cap, .int .i64 a] w fun e w' => e = .returned (.int .i64 (Pol.eval (g t) (coef k q)).toNat) ∧ ∃ m, w' = w.drewN m := by
  subst ha; exact value_nat k b cap t q w hk ht hcell
theorem cell_other {w : World} {N a b i : Nat} {v : Value} (h : b ≠ N) : (w.setCell ⟨N, a, none⟩ v).cell? ⟨b, i, none⟩ = w.cell? ⟨b, i, none⟩ :=
  World.cell?_of_block (a := ⟨b, i, none⟩) (Below.heap_setCell w ⟨N, a, none⟩ v b h)

set_option maxRecDepth 100000 in
set_option maxHeartbeats 4000000 in
theorem refSymbols_nat (first count n b off cap size : Nat) (ns : Nat → Nat) (s : ByteArray) (w : World) (hfc : first + count ≤ 16) (hns : ∀ i, i < n → ns i < 16) (hap : Pol.Apart n (gx ns)) (hb : b < w.heap.size) (hn : n ≤ 8) (hn0 : 0 < n)
    (hs1 : 1 ≤ size) (hs16 : size ≤ 16) (hs : s.size = n * size) (hcell : ∀ i, i < n → w.cell? ⟨b, off + i, none⟩ = some (.int .i64 (ns i))) :
    Calls Tryz.prog 48 #[.slice (some ⟨b, off, none⟩) n cap, .string s, .int .i64 size, .int .i64 first, .int .i64 count] w
      fun e w' => e = .returned (.string ⟨(flat size (symF n ns s size first) count).toArray⟩) ∧ Below w.heap.size w w' := by
  obtain ⟨i0, hi, hz0, hz1, hz2⟩ := info_parts infoInt
  have hP : ((count : Int) * (size : Int)) = ((count * size : Nat) : Int) := by simp
  have hPl : count * size ≤ 16 * 16 := Nat.mul_le_mul (by omega) hs16
  obtain ⟨P, hPe⟩ : ∃ P, P = count * size := ⟨_, rfl⟩
  rw [← hPe] at hP hPl
  have hmk := run_make_row' (P := Tryz.prog) 76 5 (.int .u8 0) 1 Tryz.underlying76 infoByte rfl .i64 .i64 P (by omega) (by omega)
  have HC : Hid (∀ i, i < n → w.cell? ⟨b, off + i, none⟩ = some (.int .i64 (ns i))) := hcell
  have HNS : Hid (∀ i, i < n → ns i < 16) := hns
  have HAP : Hid (Pol.Apart n (gx ns)) := hap
  have HS : Hid (s.size = n * size) := hs
  have HPE : Hid (P = count * size) := hPe
  obtain ⟨N, hN⟩ : ∃ N, N = w.heap.size := ⟨_, rfl⟩
  have R0 : (w.alloc (.cells (madeCells #[.int .u8 0] P) 5)).rowIs N 5 P (filled size (symF n ns s size first) 0 0) := by
    rw [hN]; exact (World.rowIs_made w (.int .u8 0) P 5).congr (fun a _ => by simp [filled])
  have B0 : Below N w (w.alloc (.cells (madeCells #[.int .u8 0] P) 5)) := by rw [hN]; exact (Below.refl _ _).alloc (Nat.le_refl _) _
  have hN' : w.heap.size = N := hN.symm
  rw [hN'] at hb ⊢
  clear hcell hns hap hs hPe hN
  go_enter Tryz.func48, Tryz.ntmps48
  go_wp2
  go_loopw [12] (fun x wr => ∃ p : Nat, p ≤ size ∧ x = .int .i64 p ∧ wr.rowIs N 5 P (filled size (symF n ns s size first) p 0) ∧ Below N w wr) (fun x _ => size - (intOf x).toNat)
  case atStart => exact ⟨0, Nat.zero_le _, rfl, R0, B0⟩
  case round =>
    clear R0 B0 hmk hN'
    obtain ⟨p, hp, rfl, hR, hB⟩ := hrel
    by_cases hlp : p < size
    · go_wp2
      go_loopw [13, 14] (fun v x wr => ∃ i : Nat, i ≤ n ∧ x = .int .i64 i ∧ wr.ownsRow (N + 1) 3 1 v i (vals (fun i => .int .i64 (byteAt s (i * size + p)).toNat) i) ∧ wr.rowIs N 5 P (filled size (symF n ns s size first) p 0) ∧ Below N w wr) (fun _ x _ => n - (intOf x).toNat)
      case atStart => exact ⟨0, Nat.zero_le _, rfl, World.ownsRow_nil _ _ _ _, hR, hB⟩
      case round =>
        clear hR hB
        obtain ⟨i, hin, rfl, hown, hR, hB⟩ := hrel
        have hlt := hR.lt
        by_cases hli : i < n
        · have hQ : ((i : Int) * (size : Int)) = ((i * size : Nat) : Int) := by simp
          have hQl : i * size + size ≤ s.size := by rw [HS.out, ← Nat.succ_mul]; exact Nat.mul_le_mul_right _ hli
          have hQ8 : i * size ≤ 8 * 16 := Nat.mul_le_mul (by omega) hs16
          obtain ⟨Q, hQe⟩ : ∃ Q, Q = i * size := ⟨_, rfl⟩
          rw [← hQe] at hQ hQl hQ8
          have hix : Q + p < s.size := by omega
          have HY : Hid ((byteAt s (i * size + p)).toNat = s[Q + p].toNat) := by unfold Hid; subst hQe; rw [byteAt_eq s _ hix]
          have hby : s[Q + p].toNat < 256 := UInt8.toNat_lt _
          clear hQe
          go_wp2_with (at_builtin; refine wpList_append_own _ rfl _ _ 105 rfl (N + 1) 3 i0 (.int .i64 0) 1 8 Tryz.underlying105 hi hz0 hz1 hz2 rfl (by decide) _ _ _ rfl (hown.alloc _) ⟨wr.heap.size, 0, none⟩ 1 1 [.int .i64 (s[Q + p].toNat)] rfl rfl one_news ?c2 ?c3 ?c4 ?c5 ?_)
          case c2 => intro u hu; simp at hu; subst hu; rfl
          case c3 => unfold maxLen; omega
          case c4 => omega
          case c5 => simp; omega
          · intro v' w1 hown' hgrow _
            have hR2 := row_kept hR hgrow (fun k hk => by have := (hown.lt k hk).1; omega)
            have hB2 : Below N w w1 := (hB.alloc (by omega) _).grown hgrow (by simp; omega) (fun k hk => by have := (hown.lt k hk).1; omega)
            have hown2 : w1.ownsRow (N + 1) 3 1 v' (i + 1) (vals (fun i => .int .i64 (byteAt s (i * size + p)).toNat) (i + 1)) := by rw [vals_succ, HY.out]; exact hown'
            clear hown hown' hgrow hR hB
            go_wp2
            go_roundw
            case rel => exact ⟨i + 1, by omega, by go_num, hown2, hR2, hB2⟩
            case measure => simp [intOf]; omega
        · have e : i = n := by omega
          subst e
          obtain ⟨b2, cap2, rfl, hb2, hb2l, _, _, hc2⟩ := row_cells hown hn0
          have HF := factors_any i b off cap b2 0 cap2 ns (fun i => byteAt s (i * size + p)) wr hn0 hn HNS.out HAP.out (by omega) hb2l (fun j hj => (hB.cell (p := ⟨b, off + j, none⟩) hb).trans (HC.out j hj)) (fun j hj => by rw [Nat.zero_add]; exact hc2 j hj)
          have HFL : Hid (∀ c, Pol.eval (g (first + c)) (coef i (factor i (gx ns) (fun i => byteAt s (i * size + p)))) = symF i ns s size first c p) := fun c => Pol.factor_lag HAP.out _
          clear hown hc2
          go_wp2_with fail
          refine HF.mono ?_
          rintro e w' ⟨fb, rfl, hfb1, hfb2, hfc, hfbel⟩
          clear HF
          have hR2 : w'.rowIs N 5 P (filled size (symF i ns s size first) p 0) := hR.of_block (hfbel.block N hlt)
          have hB2 : Below N w w' := hB.trans (hfbel.mono (by omega))
          have hfN : fb ≠ N := by omega
          clear hR hB hfbel hlt
          go_wp2
          go_loopw [16] (fun x wr => ∃ j : Nat, j ≤ count ∧ x = .int .i64 j ∧ wr.rowIs N 5 P (filled size (symF i ns s size first) p j) ∧ Below N w wr ∧ ∀ a, a < i → wr.cell? ⟨fb, a, none⟩ = some (.int .i64 (factor i (gx ns) (fun i => byteAt s (i * size + p)) a).toNat)) (fun x _ => count - (intOf x).toNat)
          case atStart => exact ⟨0, Nat.zero_le _, rfl, hR2, hB2, hfc⟩
          case round =>
            clear hR2 hB2 hfc
            obtain ⟨j, hj, rfl, hR, hB, hfc⟩ := hrel
            by_cases hlj : j < count
            · have HV := value_at i fb i (first + j) ((first : Int) + (j : Int)) (factor i (gx ns) (fun i => byteAt s (i * size + p))) wr (by omega) hn (by omega) hfc
              rw [HFL.out j] at HV
              have HFC : Hid (∀ a, a < i → wr.cell? ⟨fb, a, none⟩ = some (.int .i64 (factor i (gx ns) (fun i => byteAt s (i * size + p)) a).toNat)) := hfc
              clear hfc
              have hQ : ((j : Int) * (size : Int)) = ((j * size : Nat) : Int) := by simp
              have hQl : j * size + size ≤ P := by rw [HPE.out, ← Nat.succ_mul]; exact Nat.mul_le_mul_right _ hlj
              obtain ⟨Q, hQe⟩ : ∃ Q, Q = j * size := ⟨_, rfl⟩
              rw [← hQe] at hQ hQl
              have HQ : Hid (Q = j * size) := hQe
              clear hQe
              have oc := hR.cell (i := Q + p) (by omega)
              have of := hR.frozen (Q + p)
              have hVl := UInt8.toNat_lt (symF i ns s size first j p)
              have HR2 : Hid ((wr.setCell ⟨N, Q + p, none⟩ (.int .u8 (symF i ns s size first j p).toNat)).rowIs N 5 P (filled size (symF i ns s size first) p (j + 1))) :=
                (hR.set (Q + p) _).congr (fun a _ => by rw [HQ.out]; exact filled_set size _ p j hlp a)
              generalize symF i ns s size first j p = V at *
              generalize filled size (symF i ns s size first) p j (Q + p) = old at *
              clear hR
              go_wp2_with fail
              refine HV.mono ?_
              rintro e w' ⟨rfl, m, rfl⟩
              clear HV
              have hB2 : Below N w ((wr.setCell ⟨N, Q + p, none⟩ (.int .u8 V.toNat)).drewN m) := below_drewN (hB.setCell (Nat.le_refl _) _) m
              have HR3 : ((wr.setCell ⟨N, Q + p, none⟩ (.int .u8 V.toNat)).drewN m).rowIs N 5 P (filled size (symF i ns s size first) p (j + 1)) := HR2.out
              go_wp2
              go_roundw
              case rel => exact ⟨j + 1, by omega, by go_num, HR3, hB2, fun a ha => (cell_other (w := wr) hfN).trans (HFC.out a ha)⟩
              case measure => simp [intOf]; omega
            · have e : j = count := by omega
              subst e
              have hR2 := hR.congr (g := filled size (symF i ns s size first) (p + 1) 0) (fun a ha => filled_next size j _ p a (by rw [← HPE.out]; exact ha))
              clear hR hfc
              go_wp2
              go_roundw
              case rel => exact ⟨p + 1, by omega, by go_num, hR2, hB⟩
              case measure => simp [intOf]; omega
    · have e : p = size := by omega
      subst e
      have hcv := conv_row (cap := P) (flat p (symF n ns s p first) count) (by rw [flat_length, HPE.out]) hR (fun a ha x hx => by
        rw [flat_get p _ count a (by rw [← HPE.out]; exact ha)] at hx
        simp only [Option.some.injEq] at hx
        unfold filled
        rw [if_pos (.inl (Nat.mod_lt _ hs1)), hx])
      clear hR
      go_wp2
      go_ret
      exact ⟨rfl, hB⟩
end Cod
end Go.Proofs.YtkgnmcekeeannaaGreat
namespace Go.Proofs.YtkgnmcekeeannaaGreat
open Go.RowKit Go.Deep
namespace Cod
open Pol (G fm fi prodBut share lag sumTo pw gauss gstep factor coef)
open Fld (ret_int val_int i64_xor_nat)

theorem apart_of {n : Nat} {ns : Nat → Nat} (hl : ∀ i, i < n → ns i < 16) (hd : ∀ i j, i < n → j < n → i ≠ j → ns i ≠ ns j) : Pol.Apart n (gx ns) := fun i j hi hj hne e => by
  have h1 := congrArg UInt8.toNat e
  unfold gx at h1
  rw [toNat_g (by have := hl i hi; omega), toNat_g (by have := hl j hj; omega)] at h1
  exact hd i j hi hj hne h1

theorem isEmpty_no (s : ByteArray) (h : 0 < s.size) : s.toList.isEmpty = false := by
  rw [ByteArray.toList_eq, List.isEmpty_eq_false_iff]
  intro e
  have : s.data.toList.length = 0 := by rw [e]; rfl
  have h2 : s.data.toList.length = s.size := by simp
  omega
theorem isEmpty_yes (s : ByteArray) (h : s.size = 0) : s.toList.isEmpty = true := by
  rw [ByteArray.toList_eq, List.isEmpty_iff]
  have h2 : s.data.toList.length = s.size := by simp
  exact List.length_eq_zero_iff.1 (by omega)

end Cod
end Go.Proofs.YtkgnmcekeeannaaGreat
