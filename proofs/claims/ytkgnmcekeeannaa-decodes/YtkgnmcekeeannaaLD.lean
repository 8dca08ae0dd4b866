import Derived.Test.YtkgnmcekeeannaaWO
import Derived.Laws.CopyOwn
import Derived.OpenShut
namespace Go.Proofs.Ytkgnmcekeeannaa
open Go.RowKit Go.Deep
namespace Cod
open Pol (G fm fi prodBut share lag sumTo pw gauss gstep factor coef)
open Fld (ret_int val_int i64_xor_nat)

theorem sizeInt : (Try.prog.info? 3).map (·.size) = some 1 := by kernel_rfl

def lrow (n : Nat) (zs : Nat → Int) (i : Nat) : Value := if i < n then .int .i64 (zs i) else .int .i64 0
theorem splice_row {w : World} {N n : Nat} {zs : Nat → Int} (h : w.heap[N]? = some (.cells (splice (madeCells #[.int .i64 0] (n + 2)).toList 0 (vals (fun i => .int .i64 (zs i)) n)).toArray 3 (0, 0))) :
    w.rowIs N 3 (n + 2) (lrow n zs) := by
  have hlen : (madeCells #[Value.int .i64 0] (n + 2)).toList.length = n + 2 := by simp [madeCells]
  refine ⟨_, h, by simp [splice, vals_length, madeCells], fun i hi => ?_⟩
  simp only [splice, List.take_zero, List.nil_append, Nat.zero_add, vals_length, List.getElem?_toArray]
  by_cases e : i < n
  · rw [List.getElem?_append_left (by rw [vals_length]; exact e), vals_get _ _ _ e]; simp [lrow, e]
  · rw [List.getElem?_append_right (by rw [vals_length]; omega), vals_length, List.getElem?_drop]
    rw [show n + (i - n) = i from by omega]
    simp [madeCells, lrow, e, hi, Nat.mod_one]

set_option maxRecDepth 100000 in
set_option maxHeartbeats 4000000 in
theorem decodes_core (ao : Option Addr) (n cap : Nat) (zs : Nat → Int) (s : ByteArray) (size : Int) (w : World) (hn : n * 8 ≤ 140737488351232) (hl : Lies w ao n zs) :
    Calls Try.prog 6 #[.slice ao n cap, .string s, .int .i64 size] w fun e w' => e = .returned (.bool true) ∧ Below w.heap.size w w' := by
  have hmk := run_make_row' (P := Try.prog) 33 3 (.int .i64 0) 8 Try.underlying33 infoInt rfl .i64 .i64 (n + 2) (by omega) (by omega)
  have ec : ((n + 2 : Nat) : Int) = (n : Int) + 2 := by omega
  rw [ec] at hmk
  obtain ⟨N, hN⟩ : ∃ N, N = w.heap.size := ⟨_, rfl⟩
  have hN' : w.heap.size = N := hN.symm
  have HL : Hid (Lies w ao n zs) := hl
  have B1 : Below N w (w.alloc (.cells (madeCells #[.int .i64 0] (n + 2)) 3)) := by rw [hN]; exact (Below.refl _ _).alloc (Nat.le_refl _) _
  have hg1 : (w.alloc (.cells (madeCells #[.int .i64 0] (n + 2)) 3)).heap[N]? = some (.cells (madeCells #[.int .i64 0] (n + 2)) 3 (0, 0)) := by
    rw [hN]; exact heap_alloc_new w (.cells (madeCells #[.int .i64 0] (n + 2)) 3)
  obtain ⟨w1, hcopy, R1, hb1⟩ : ∃ w1, (∀ ty, (Builtin.copy_ #[33, 33] ty #[.slice (some ⟨N, 0, none⟩) (n + 2) (n + 2), .slice ao n cap]).run Try.prog (w.alloc (.cells (madeCells #[.int .i64 0] (n + 2)) 3)) = .ok (goInt n) w1) ∧ w1.rowIs N 3 (n + 2) (lrow n zs) ∧ Below N w w1 := by
    rcases hl with h | ⟨b, off, rfl, hb, hc⟩
    · subst h
      refine ⟨_, fun ty => run_copy_none (P := Try.prog) _ 33 33 ty 3 _ ao _ _ 0 cap Try.underlying33 sizeInt (by simp), ?_, B1⟩
      have hn := World.rowIs_made w (.int .i64 0) (0 + 2) 3
      rw [← hN] at hn
      exact hn.congr (fun i _ => by simp [lrow])
    · have hmem : ∀ v ∈ vals (fun i => .int .i64 (zs i)) n, v.oneCell' = true := by
        intro v hv; simp only [vals, List.mem_map] at hv; obtain ⟨_, _, rfl⟩ := hv; rfl
      have hsrc : ∀ j v, (vals (fun i => .int .i64 (zs i)) n)[j]? = some v → (w.alloc (.cells (madeCells #[.int .i64 0] (n + 2)) 3)).cell? ((⟨b, off, none⟩ : Addr).add j) = some v := by
        intro j v hj
        have hjn : j < n := by have := (List.getElem?_eq_some_iff.1 hj).1; rwa [vals_length] at this
        rw [vals_get _ _ _ hjn] at hj
        have e : (⟨b, off, none⟩ : Addr).add j = ⟨b, off + j, none⟩ := by
          unfold Addr.add
          by_cases e : j = 0
          · subst e; rfl
          · simp [e]
        rw [e, B1.cell (p := ⟨b, off + j, none⟩) (by show b < N; omega), hc j hjn]
        exact hj
      have hrun := fun ty => run_copy_row (P := Try.prog) (w.alloc (.cells (madeCells #[.int .i64 0] (n + 2)) 3)) 33 33 ty 3 N 0 (n + 2) (n + 2) ⟨b, off, none⟩ n cap (madeCells #[.int .i64 0] (n + 2)) 3 (vals (fun i => .int .i64 (zs i)) n) Try.underlying33 sizeInt hg1 (by rw [vals_length]; exact (Nat.min_eq_left (by omega)).symm) hsrc (by simp [vals_length, madeCells]) hmem
      rw [vals_length] at hrun
      refine ⟨_, hrun, splice_row ?_, below_setRow B1 (Nat.le_refl _) _⟩
      rw [setRow_heap _ N _ _ _ _ hg1]
      simp [splice, vals_length]
  rw [hN']
  clear hl hN ec hg1 B1
  go_enter Try.func6, Try.ntmps6
  have c1 := R1.cell (i := n) (by omega)
  have f1 := R1.frozen n
  have R2 := R1.set n (.int .i64 77)
  have c2 := R2.cell (i := n + 1) (by omega)
  have f2 := R2.frozen (n + 1)
  simp only [show ¬ n + 1 = n by omega, if_false] at c2
  have R3 := R2.set (n + 1) (.int .i64 78)
  have B3 : Below N w ((w1.setCell ⟨N, n, none⟩ (.int .i64 77)).setCell ⟨N, n + 1, none⟩ (.int .i64 78)) := (hb1.setCell (Nat.le_refl _) _).setCell (Nat.le_refl _) _
  clear R1 R2
  have R4 : ((w1.setCell ⟨N, n, none⟩ (.int .i64 77)).setCell ⟨N, n + 1, none⟩ (.int .i64 78)).rowIs N 3 (n + 2) (fun i => if i = n + 1 then .int .i64 78 else if i = n then .int .i64 77 else .int .i64 (zs i)) := R3.congr (fun i hi => by
    by_cases e1 : i = n + 1
    · simp [e1]
    · by_cases e2 : i = n
      · simp [e2]
      · simp [e1, e2, lrow, show i < n by omega])
  clear R3
  go_wp2_with fail
  generalize (w1.setCell ⟨N, n, none⟩ (.int .i64 77)).setCell ⟨N, n + 1, none⟩ (.int .i64 78) = W3 at *
  clear c1 f1 c2 f2 hcopy hmk hb1
  have L3 : Lies W3 (some ⟨N, 0, none⟩) n zs := .inr ⟨N, 0, rfl, R4.lt, fun i hi => by rw [Nat.zero_add, R4.cell (by omega)]; simp [show ¬ i = n + 1 by omega, show ¬ i = n by omega]⟩
  have H1 := rDecode (some ⟨N, 0, none⟩) n (n + 2) zs s size W3 (by unfold maxLen; omega) L3
  have L4 : ∀ w4, Below N w w4 → Lies w4 ao n zs := fun w4 hb => by
    rcases HL.out with h | ⟨b, off, h, hbl, hc⟩
    · exact .inl h
    · exact .inr ⟨b, off, h, by have := hb.size; omega, fun i hi => (hb.cell (p := ⟨b, off + i, none⟩) (by show b < N; omega)).trans (hc i hi)⟩
  have H2 := fun w4 hb => refDecode_any ao n cap zs s size w4 (by unfold maxLen; omega) (L4 w4 hb)
  unfold decV at *
  generalize decOut n zs s size = o at *
  obtain ⟨o1, o2⟩ := o
  clear L3
  refine H1.mono ?_
  rintro e w4 ⟨rfl, hb4⟩
  have B4 : Below N w w4 := B3.trans (hb4.mono (by have := R4.lt; omega))
  have R5 := R4.of_block (hb4.block N R4.lt)
  have H3 := H2 w4 B4
  clear H1 H2 R4 B3 hb4
  go_wp2_with fail
  refine H3.mono ?_
  rintro e w5 ⟨rfl, hb5⟩
  have B5 : Below N w w5 := B4.trans (hb5.mono (by have := R5.lt; omega))
  have R6 := R5.of_block (hb5.block N R5.lt)
  have L5 := L4 w5 B5
  have HL5 : Hid (Lies w5 ao n zs) := L5
  clear H3 R5 B4 hb5 L4 L5
  go_wp2
  go_loopw [13] (fun x wr => ∃ i : Nat, i ≤ n ∧ x = .int .i64 i ∧ ∃ m, wr = w5.drewN m) (fun x _ => n - (intOf x).toNat)
  case atStart => exact ⟨0, Nat.zero_le _, rfl, 0, rfl⟩
  case round =>
    obtain ⟨i, hi, rfl, hwr⟩ := hrel
    have HW : Hid (∃ m, wr = w5.drewN m) := hwr
    have R7 : wr.rowIs N 3 (n + 2) (fun i => if i = n + 1 then .int .i64 78 else if i = n then .int .i64 77 else .int .i64 (zs i)) := by
      obtain ⟨m, rfl⟩ := hwr; exact R6
    have HB : Hid (Below N w wr) := by
      obtain ⟨m, rfl⟩ := hwr; exact below_drewN B5 m
    have HL7 : Hid (Lies wr ao n zs) := by
      obtain ⟨m, rfl⟩ := hwr; exact HL5.out
    clear hwr R6 B5 HL5
    by_cases hlt : i < n
    · rcases HL7.out with h | ⟨b, off, rfl, hbl, hc⟩
      · omega
      · have cl := R7.cell (i := i) (by omega)
        simp only [show ¬ i = n + 1 by omega, show ¬ i = n by omega, if_false] at cl
        have cn := hc i hlt
        have ht : (zs i != zs i) = false := by simp
        clear R7 hc
        go_wp2_with fail
        go_quiet (fail)
        go_wp2
        go_roundw
        case rel => exact ⟨i + 1, by omega, by go_num, drawn_more HW.out⟩
        case measure => simp [intOf]; omega
    · have c7 := R7.cell (i := n) (by omega)
      have c8 := R7.cell (i := n + 1) (by omega)
      simp only [show ¬ n = n + 1 by omega, if_true, if_false] at c7 c8
      clear R7
      go_wp2
      go_ret
      exact ⟨by simp, HB.out⟩
theorem decodes_said (a0 : Option Addr) (len0 cap0 : Nat) (z0 : List Int) (a1 : ByteArray) (a2 : Int) (w : World)
    (w0 : (a0 = none ∧ len0 = 0 ∧ cap0 = 0 ∧ z0 = []) ∨ ∃ x, a0 = some x ∧ len0 ≤ cap0 ∧ cap0 ≤ maxLen ∧ z0.length = cap0 ∧ (∀ i, i < z0.length → w.cell? (x.add i) = some (.int .i64 (z0.getD i 0))) ∧ ∀ n ∈ z0, (Lit.int .i64 n).wf = true)
    (r0 : cap0 * 8 ≤ 140737488351232) :
    Calls Try.prog 6 #[.slice a0 len0 cap0, .string a1, .int .i64 a2] w fun e w' => e = .returned (.bool true) ∧ Below w.heap.size w w' := by
  rcases w0 with ⟨rfl, rfl, rfl, rfl⟩ | ⟨x, rfl, hl, hm, hz, hc, _⟩
  · exact decodes_core none 0 0 (fun _ => 0) a1 a2 w (by omega) (.inl rfl)
  · refine decodes_core (some x) len0 cap0 (fun i => z0.getD i 0) a1 a2 w (by omega) ?_
    rcases Nat.eq_zero_or_pos len0 with h | h
    · exact .inl h
    · obtain ⟨b, off, rfl, hcell⟩ := ints_at hc (by omega)
      exact .inr ⟨b, off, rfl, World.block_lt_of_cell? w ⟨b, off + 0, none⟩ (hcell 0 (by omega)), fun i hi => hcell i (by omega)⟩
end Cod
end Go.Proofs.Ytkgnmcekeeannaa
