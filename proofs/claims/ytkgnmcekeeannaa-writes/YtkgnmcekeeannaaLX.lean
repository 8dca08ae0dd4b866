import Derived.Test.YtkgnmcekeeannaaMG
import Derived.Test.YtkgnmcekeeannaaLW
namespace Go.Proofs.Ytkgnmcekeeannaa
open Go.RowKit Go.Deep
namespace Ms
open Bs
set_option linter.unusedVariables false

theorem run_copy_rows {P : Program} (w : World) (dT sT ty elem : TypeId) (g o dLen dCap : Nat) (a : Addr) (sLen sCap : Nat) (cur : Array Value) (t : TypeId) (cs : List Value) (s k : Nat)
    (hu : P.underlying dT = some (.slice elem)) (hs : (P.info? elem).map (·.size) = some s)
    (hg : w.heap[g]? = some (.cells cur t (0, 0))) (hk : k = Nat.min sLen dLen) (hn : cs.length = k * s)
    (hsrc : ∀ j v, cs[j]? = some v → w.cell? (a.add j) = some v) (hfit : o + cs.length ≤ cur.size) (h1 : ∀ v ∈ cs, v.oneCell' = true) :
    (Builtin.copy_ #[dT, sT] ty #[.slice (some ⟨g, o, none⟩) dLen dCap, .slice (some a) sLen sCap]).run P w =
      .ok (goInt k) (w.setRow g (cur.toList.take o ++ cs ++ cur.toList.drop (o + cs.length)).toArray) := by
  have hl := run_loadCells_list (P := P) w a cs hsrc
  have hst := run_storeCells_at P g o t cs 0 cur w hg (by simpa using hfit) h1
  rw [hn] at hl
  cases hq : P.info? elem with
  | none => simp [hq] at hs
  | some i =>
    have hi : i.size = s := by simpa [hq] using hs
    simp [Builtin.copy_, run_underlying hu, Builtin.lenOf, Builtin.firstCells, sizeOf, typeInfo, hq, hi, ← hk, hl, hst]
theorem run_copy_nothing {P : Program} (w : World) (dT sT ty elem : TypeId) (d a : Option Addr) (dLen dCap sLen sCap s : Nat) (hu : P.underlying dT = some (.slice elem)) (hs : (P.info? elem).map (·.size) = some s) (hn : Nat.min sLen dLen = 0) :
    (Builtin.copy_ #[dT, sT] ty #[.slice d dLen dCap, .slice a sLen sCap]).run P w = .ok (goInt 0) w := by
  cases hq : P.info? elem with
  | none => simp [hq] at hs
  | some i =>
    have hl : ∀ (x : Addr), (loadCells x 0).run P w = .ok #[] w := fun x => by simpa using run_loadCells_list (P := P) w x [] (by simp)
    cases d <;> cases a <;> simp [Builtin.copy_, run_underlying hu, Builtin.lenOf, Builtin.firstCells, sizeOf, typeInfo, hq, hn, storeCells, hl]
def lrow (n : Nat) (its : Nat → It) (j : Nat) : Value := if j < n * 3 then icell its j else .int .i64 0
theorem splice_items {w : World} {N n : Nat} {its : Nat → It} (h : w.heap[N]? = some (.cells (splice (madeCells zc ((n + 1) * 3)).toList 0 (icells its n)).toArray 40 (0, 0))) :
    w.rowIs N 40 ((n + 1) * 3) (lrow n its) := by
  refine ⟨_, h, by simp [splice, icells_length, madeCells]; omega, fun i hi => ?_⟩
  simp only [splice, List.take_zero, List.nil_append, Nat.zero_add, icells_length, List.getElem?_toArray]
  by_cases e : i < n * 3
  · rw [List.getElem?_append_left (by rw [icells_length]; exact e), icells_get _ _ _ e]; simp [lrow, e]
  · rw [List.getElem?_append_right (by rw [icells_length]; omega), icells_length, List.getElem?_drop]
    rw [show n * 3 + (i - n * 3) = i from by omega]
    simp only [madeCells, lrow, e, if_false]
    simp only [Array.toList_map, List.getElem?_map, Array.toList_range, List.getElem?_range hi, Option.map_some]
    congr 1
    have : i % 3 = 0 ∨ i % 3 = 1 ∨ i % 3 = 2 := by omega
    rcases this with h | h | h <;> simp [zc, h]

set_option maxRecDepth 100000 in
set_option maxHeartbeats 4000000 in
theorem writes_core (kd ob bl nu le : Int) (sy : ByteArray) (ao : Option Addr) (l : List It) (cap : Nat) (os : Int) (w : World) (hn : l.length * 24 ≤ 140737488351232) (hs : sy.size ≤ maxLen) (hl : ItemsAt w ao l.length (itF l)) :
    Calls Try.prog 7 #[mV kd ob bl nu le sy ao l.length cap os] w fun e w' => e = .returned (.bool true) ∧ Below w.heap.size w w' := by
  obtain ⟨i0, hi, hz0, hz1, hz2⟩ := info_parts3 infoItem
  obtain ⟨n, hnl⟩ : ∃ n, n = l.length := ⟨_, rfl⟩
  have HNL : Hid (n = l.length) := hnl
  rw [← hnl] at hn hl ⊢
  have hmk : ∀ W : World, (Instr.makeSlice 36 (.int .i64 ((n : Int) + 1)) (.int .i64 ((n : Int) + 1))).run Try.prog W = .ok (.slice (some ⟨W.heap.size, 0, none⟩) (n + 1) (n + 1)) (W.alloc (.cells (madeCells zc ((n + 1) * 3)) 40)) := by
    intro W
    have h := run_make (P := Try.prog) W 36 40 i0 _ Try.underlying36 hi hz0 .i64 .i64 ((n : Int) + 1) ((n : Int) + 1) (by omega) (Int.le_refl _) (by rw [hz2]; omega) (by omega)
    rw [hz1, show ((n : Int) + 1).toNat = n + 1 from by omega] at h
    exact h
  obtain ⟨N, hN⟩ : ∃ N, N = w.heap.size := ⟨_, rfl⟩
  have HL : Hid (ItemsAt w ao n (itF l)) := hl
  obtain ⟨w0, hw0⟩ : ∃ w0, w0 = w.alloc (mBox kd ob bl nu le sy ao n cap os) := ⟨_, rfl⟩
  have hz0 : w0.heap.size = N + 1 := by rw [hw0, hN]; simp
  have B0 : Below N w w0 := by rw [hw0, hN]; exact (Below.refl _ _).alloc (Nat.le_refl _) _
  have hl0 : ItemsAt w0 ao n (itF l) := hl.stay (by rw [← hN]; exact B0)
  have hbox : ∀ j v, (#[Value.int .i64 kd, .int .i64 ob, .int .i64 bl, .int .i64 nu, .int .i64 le, .string sy, .slice ao n cap, .int .i64 os] : Array Value)[j]? = some v → w0.cell? ⟨N, j, none⟩ = some v := fun j v hv => by rw [hw0]; exact cell_new hN hv
  have hg1 : (w0.alloc (.cells (madeCells zc ((n + 1) * 3)) 40)).heap[N + 1]? = some (.cells (madeCells zc ((n + 1) * 3)) 40 (0, 0)) := by
    rw [← hz0]; exact heap_alloc_new w0 (.cells (madeCells zc ((n + 1) * 3)) 40)
  have B1 : Below (N + 1) w0 (w0.alloc (.cells (madeCells zc ((n + 1) * 3)) 40)) := by rw [← hz0]; exact (Below.refl _ _).alloc (Nat.le_refl _) _
  obtain ⟨w1, hcopy, R1, hb1⟩ : ∃ w1, (∀ ty, (Builtin.copy_ #[36, 36] ty #[.slice (some ⟨N + 1, 0, none⟩) (n + 1) (n + 1), .slice ao n cap]).run Try.prog (w0.alloc (.cells (madeCells zc ((n + 1) * 3)) 40)) = .ok (goInt n) w1) ∧ w1.rowIs (N + 1) 40 ((n + 1) * 3) (lrow n (itF l)) ∧ Below (N + 1) w0 w1 := by
    rcases hl0 with h | ⟨b, off, rfl, hb, hc⟩
    · subst h
      refine ⟨_, fun ty => run_copy_nothing (P := Try.prog) _ 36 36 ty 40 _ ao _ _ 0 cap 3 Try.underlying36 sizeItem (by simp), ?_, B1⟩
      refine splice_items (n := 0) ?_
      rw [hg1]
      simp [splice, icells]
    · have hmem : ∀ v ∈ icells (itF l) n, v.oneCell' = true := by
        intro v hv; simp only [icells, List.mem_map] at hv; obtain ⟨_, _, rfl⟩ := hv; exact icell_one _ _
      have hsrc : ∀ j v, (icells (itF l) n)[j]? = some v → (w0.alloc (.cells (madeCells zc ((n + 1) * 3)) 40)).cell? ((⟨b, off, none⟩ : Addr).add j) = some v := by
        intro j v hj
        have hjn : j < n * 3 := by have := (List.getElem?_eq_some_iff.1 hj).1; rwa [icells_length] at this
        rw [icells_get _ _ _ hjn] at hj
        rw [add_eq, B1.cell (p := ⟨b, off + j, none⟩) (by show b < N + 1; omega), at_icell hc j hjn]
        exact hj
      have hrun := fun ty => run_copy_rows (P := Try.prog) (w0.alloc (.cells (madeCells zc ((n + 1) * 3)) 40)) 36 36 ty 40 (N + 1) 0 (n + 1) (n + 1) ⟨b, off, none⟩ n cap (madeCells zc ((n + 1) * 3)) 40 (icells (itF l) n) 3 n Try.underlying36 sizeItem hg1 (Nat.min_eq_left (by omega)).symm (icells_length _ _) hsrc (by simp [icells_length, madeCells]; omega) hmem
      refine ⟨_, hrun, splice_items ?_, below_setRow B1 (Nat.le_refl _) _⟩
      rw [setRow_heap _ (N + 1) _ _ _ _ hg1]
      simp [splice]
  have hN' : w.heap.size = N := hN.symm
  rw [hN']
  clear hl hN hg1 B1 hl0 hi hz0 hz1 hz2 hnl
  subst hw0
  have d6 := hbox 6 _ rfl
  have e6 : w1.cell? ⟨N, 6, none⟩ = some (.slice ao n cap) := (hb1.cell (p := ⟨N, 6, none⟩) (by show N < N + 1; omega)).trans d6
  have q0 := R1.cell (i := n * 3) (by omega)
  have q1 := R1.cell (i := n * 3 + 1) (by omega)
  have q2 := R1.cell (i := n * 3 + 2) (by omega)
  have f0 := R1.frozen (n * 3)
  have f1 := R1.frozen (n * 3 + 1)
  have f2 := R1.frozen (n * 3 + 2)
  go_enter Try.func7, Try.ntmps7
  go_upto_region 5 with fail
  have R3 : (((w1.setCell ⟨N + 1, n * 3, none⟩ (.int .i64 77)).setCell ⟨N + 1, n * 3 + 1, none⟩ (.int .i64 77)).setCell ⟨N + 1, n * 3 + 2, none⟩ (.int .i64 77)).rowIs (N + 1) 40 ((n + 1) * 3) (fun j => if j < n * 3 then icell (itF l) j else .int .i64 77) :=
    (((R1.set (n * 3) (.int .i64 77)).set (n * 3 + 1) (.int .i64 77)).set (n * 3 + 2) (.int .i64 77)).congr (fun j hj => by
      by_cases e : j < n * 3
      · simp [e, lrow, show ¬ j = n * 3 by omega, show ¬ j = n * 3 + 1 by omega, show ¬ j = n * 3 + 2 by omega]
      · have : j = n * 3 ∨ j = n * 3 + 1 ∨ j = n * 3 + 2 := by omega
        rcases this with rfl | rfl | rfl <;> simp <;> omega)
  have hb3 : Below (N + 1) (w.alloc (mBox kd ob bl nu le sy ao n cap os)) (((w1.setCell ⟨N + 1, n * 3, none⟩ (.int .i64 77)).setCell ⟨N + 1, n * 3 + 1, none⟩ (.int .i64 77)).setCell ⟨N + 1, n * 3 + 2, none⟩ (.int .i64 77)) :=
    ((hb1.setCell (Nat.le_refl _) _).setCell (Nat.le_refl _) _).setCell (Nat.le_refl _) _
  generalize ((w1.setCell ⟨N + 1, n * 3, none⟩ (.int .i64 77)).setCell ⟨N + 1, n * 3 + 1, none⟩ (.int .i64 77)).setCell ⟨N + 1, n * 3 + 2, none⟩ (.int .i64 77) = W3 at *
  have bx : ∀ j v, (#[Value.int .i64 kd, .int .i64 ob, .int .i64 bl, .int .i64 nu, .int .i64 le, .string sy, .slice ao n cap, .int .i64 os] : Array Value)[j]? = some v → W3.cell? ⟨N, j, none⟩ = some v :=
    fun j v hv => (hb3.cell (p := ⟨N, j, none⟩) (by show N < N + 1; omega)).trans (hbox j v hv)
  have x0 := bx 0 _ rfl
  have x1 := bx 1 _ rfl
  have x2 := bx 2 _ rfl
  have x3 := bx 3 _ rfl
  have x4 := bx 4 _ rfl
  have x5 := bx 5 _ rfl
  have x6 := bx 6 _ rfl
  have x7 := bx 7 _ rfl
  have B3 : Below N w W3 := B0.trans (hb3.mono (by omega))
  have z3 : N + 1 < W3.heap.size := R3.lt
  clear hcopy R1 hb1 hb3 bx hbox e6 d6 q0 q1 q2 f0 f1 f2 hmk B0
  have L3 : ItemsAt (W3.alloc (mBox kd ob bl nu le sy (some ⟨N + 1, 0, none⟩) n (n + 1) os)) (some ⟨N + 1, 0, none⟩) n (itF l) :=
    (items_of_row R3 (by omega) (fun j hj => by simp [hj])).stay ((Below.refl _ _).alloc (Nat.le_refl _) _)
  have hlm : l.length ≤ maxLen := by rw [← HNL.out]; unfold maxLen; omega
  have H1 := rWrite ⟨kd, ob, bl, nu, le, sy, l, os⟩ (some ⟨N + 1, 0, none⟩) (n + 1) (W3.alloc (mBox kd ob bl nu le sy (some ⟨N + 1, 0, none⟩) n (n + 1) os)) hlm hs (by show ItemsAt _ _ l.length _; rw [← HNL.out]; exact L3)
  have H2 := fun w4 (hb : Below N w w4) => refWrite ⟨kd, ob, bl, nu, le, sy, l, os⟩ ao cap w4 hlm hs (by show ItemsAt _ _ l.length _; rw [← HNL.out]; exact HL.out.stay (by rw [hN']; exact hb))
  simp only [mVm, ← HNL.out] at H1 H2
  clear L3 hlm
  go_wp2_with fail
  refine H1.mono ?_
  rintro e w4 ⟨ho1, hb4⟩
  have B4 : Below N w w4 := (B3.alloc (by omega) _).trans (hb4.mono (by simp; omega))
  have R4 := R3.of_block ((hb4.block (N + 1) (by simp; omega)).trans (Below.heap_alloc W3 _ (N + 1) z3))
  have kp : ∀ j v, W3.cell? ⟨N, j, none⟩ = some v → w4.cell? ⟨N, j, none⟩ = some v := fun j v h => (hb4.cell (p := ⟨N, j, none⟩) (by simp; omega)).trans (cell_old (by omega) h)
  have y0 := kp 0 _ x0
  have y1 := kp 1 _ x1
  have y2 := kp 2 _ x2
  have y3 := kp 3 _ x3
  have y4 := kp 4 _ x4
  have y5 := kp 5 _ x5
  have y6 := kp 6 _ x6
  have y7 := kp 7 _ x7
  have z4 : N + 1 < w4.heap.size := R4.lt
  have H3 := H2 w4 B4
  clear H1 H2 B3 R3 kp hb4 x0 x1 x2 x3 x4 x5 x6 x7 z3
  obtain ⟨T, E, rfl, HO⟩ : ∃ T E, e = .returned (.tuple #[.string T, .int .i64 E]) ∧ Hid (WriteOut ⟨kd, ob, bl, nu, le, sy, l, os⟩ (.returned (.tuple #[.string T, .int .i64 E]))) := by
    rcases ho1 with ⟨h, rfl⟩ | ⟨h, rfl⟩
    · exact ⟨_, _, rfl, .inl ⟨h, rfl⟩⟩
    · exact ⟨_, _, rfl, .inr ⟨h, rfl⟩⟩
  clear ho1
  go_wp2_with fail
  refine H3.mono ?_
  rintro e w5 ⟨ho2, hb5⟩
  obtain rfl : e = .returned (.tuple #[.string T, .int .i64 E]) := by
    have h1 := HO.out
    rcases ho2 with ⟨h, rfl⟩ | ⟨h, rfl⟩ <;> rcases h1 with ⟨h', h1⟩ | ⟨h', h1⟩
    · exact h1.symm
    · exact absurd h h'
    · exact absurd h' h
    · exact h1.symm
  have B5 : Below N w w5 := B4.trans (hb5.mono (by omega))
  have R5 := R4.of_block (hb5.block (N + 1) z4)
  have u6 := (hb5.cell (p := ⟨N, 6, none⟩) (by show N < w4.heap.size; omega)).trans y6
  clear ho2 HO H3 hb5 R4 B4 y0 y1 y2 y3 y4 y5 y6 y7
  have LA : Hid (ItemsAt w5 (some ⟨N + 1, 0, none⟩) n (itF l)) := items_of_row R5 (by omega) (fun j hj => by simp [hj])
  have LB : Hid (ItemsAt w5 ao n (itF l)) := HL.out.stay (by rw [hN']; exact B5)
  have q0 := R5.cell (i := n * 3) (by omega)
  have q1 := R5.cell (i := n * 3 + 1) (by omega)
  have q2 := R5.cell (i := n * 3 + 2) (by omega)
  simp only [Nat.lt_irrefl, if_false, show ¬ n * 3 + 1 < n * 3 by omega, show ¬ n * 3 + 2 < n * 3 by omega] at q0 q1 q2
  have HS := fun m => sameItems_eq (some ⟨N + 1, 0, none⟩) ao n (n + 1) cap (itF l) (w5.drewN m) (by unfold maxLen; omega) LA.out LB.out
  clear R5 LA LB
  go_wp2_with fail
  go_quiet ((go_at_call 25; exact Calls.quiet_of (HS _)))
  clear HS
  go_wp2
  go_ret
  exact ⟨by simp, below_drewN B5 _⟩
end Ms
end Go.Proofs.Ytkgnmcekeeannaa
