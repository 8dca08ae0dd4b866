import Derived.Test.YtkgnmcekeeannaaGreatY50
import Derived.Test.YtkgnmcekeeannaaGreatRows
import Derived.ProofKit
import Derived.OpenShut
import Derived.ShutString
import Derived.SizedLaws
import Derived.Deep.Slices
/-
  The laws Hears and All: played.
-/
namespace Go.Proofs.YtkgnmcekeeannaaGreat
open Go.RowKit Go.Deep
namespace Sn
open Bs
set_option linter.unusedVariables false

theorem GS6.below {B : Nat} {w0 w w' : World} {Q : Nat} {P R P' R' : Nat → Nat} {j : Nat} (h : GS6 B w0 w' Q P R P' R' j) (hb : Below w.heap.size w w0) (hB : w.heap.size ≤ B) : Below w.heap.size w w' := by
  obtain ⟨C, S, V, on, bk, s, l, r, m, k⟩ := h
  exact hb.trans (m.bel.mono hB)
theorem OpsAt.stay {w w' : World} {ao : Option Addr} {n : Nat} {ops : Nat → Op} (h : OpsAt w ao n ops) (hb : Below w.heap.size w w') : OpsAt w' ao n ops := by
  rcases h with h | ⟨b, off, h1, h2, h3⟩
  · exact .inl h
  · refine .inr ⟨b, off, h1, by have := hb.size; omega, fun i hi => ?_⟩
    obtain ⟨a1, a2, a3, a4⟩ := h3 i hi
    exact ⟨(hb.cell (p := ⟨b, off + i * 4, none⟩) h2).trans a1, (hb.cell (p := ⟨b, off + i * 4 + 1, none⟩) h2).trans a2, (hb.cell (p := ⟨b, off + i * 4 + 2, none⟩) h2).trans a3, (hb.cell (p := ⟨b, off + i * 4 + 3, none⟩) h2).trans a4⟩
set_option maxRecDepth 100000 in
set_option maxHeartbeats 4000000 in
theorem played_any (g : Nat → Int) (ao : Option Addr) (n cap : Nat) (ops : Nat → Op) (fr to_ : Int) (w : World) (hn : n ≤ 1048576) (hops : OpsAt w ao n ops) (hb : ∀ i, i < n → (-9223372036854775808 ≤ (ops i).a ∧ (ops i).a ≤ 9223372036854775807) ∧ -9223372036854775808 ≤ (ops i).b ∧ (ops i).b ≤ 9223372036854775807 ∧ (ops i).s.size ≤ 1048576) :
    Calls Tryz.prog 5 #[.agg #[.int .i64 (g 0), .int .i64 (g 1), .int .i64 (g 2)], .agg #[.int .i64 (g 3), .int .i64 (g 4), .int .i64 (g 5)], .slice ao n cap, .int .i64 fr, .int .i64 to_] w fun e w' => e = .returned (.bool true) ∧ Below w.heap.size w w' := by
  have HMD := fun W => made_any g W
  have HOP : Hid (OpsAt w ao n ops) := hops
  have HBD : Hid (∀ i, i < n → (-9223372036854775808 ≤ (ops i).a ∧ (ops i).a ≤ 9223372036854775807) ∧ -9223372036854775808 ≤ (ops i).b ∧ (ops i).b ≤ 9223372036854775807 ∧ (ops i).s.size ≤ 1048576) := hb
  have B0 : Below w.heap.size w ((w.alloc (.cells #[.int .i64 (g 0), .int .i64 (g 1), .int .i64 (g 2)] 23)).alloc (.cells #[.int .i64 (g 3), .int .i64 (g 4), .int .i64 (g 5)] 23)) := ((Below.refl _ _).alloc (Nat.le_refl _) _).alloc (by simp) _
  obtain ⟨W, hW⟩ : ∃ W, W = (w.alloc (.cells #[.int .i64 (g 0), .int .i64 (g 1), .int .i64 (g 2)] 23)).alloc (.cells #[.int .i64 (g 3), .int .i64 (g 4), .int .i64 (g 5)] 23) := ⟨_, rfl⟩
  have HB0 : Hid (Below w.heap.size w W) := by rw [hW]; exact B0
  clear hops hb B0
  go_enter Tryz.func5, Tryz.ntmps5
  go_wp2_with fail
  simp only [← hW]
  refine (HMD W).mono ?_
  rintro e w1 ho
  clear HMD hW
  rcases ho with ⟨rfl, hb1⟩ | ⟨Q, P, R, P', R', rfl, B, w0, hb, hB, hg⟩
  · have HB1 : Hid (Below w.heap.size w w1) := HB0.out.trans (hb1.mono HB0.out.size)
    clear hb1
    go_wp2
    go_ret
    exact ⟨rfl, HB1.out⟩
  · have HG0 : Hid (GS6 B w0 w1 Q P R P' R' 0) := hg
    have HBW : Hid (Below w.heap.size w w0 ∧ w.heap.size ≤ B) := ⟨HB0.out.trans (hb.mono HB0.out.size), by have := HB0.out.size; omega⟩
    clear hg hb hB
    go_wp2_with fail
    go_loopw [13] (fun y wr => ∃ j : Nat, j ≤ n ∧ y = .int .i64 j ∧ GS6 B w0 wr Q P R P' R' j) (fun y _ => n - (intOf y).toNat)
    case atStart => exact ⟨0, Nat.zero_le _, rfl, HG0.out⟩
    case round =>
      clear HG0
      obtain ⟨j, hj, rfl, hG⟩ := hrel
      have HG : Hid (GS6 B w0 wr Q P R P' R' j) := hG
      have HBR : Hid (Below w.heap.size w wr) := hG.below HBW.out.1 HBW.out.2
      clear hG
      by_cases hlt : j < n
      · rcases HOP.out with h0 | ⟨b, off, rfl, hbl, hcs⟩
        · omega
        · obtain ⟨i0, i1, i2, i3⟩ := hcs j hlt
          have y0 : wr.cell? ⟨b, off + j * 4, none⟩ = some (.int .i64 (ops j).k) := (HBR.out.cell (p := ⟨b, off + j * 4, none⟩) hbl).trans i0
          have y1 : wr.cell? ⟨b, off + j * 4 + 1, none⟩ = some (.int .i64 (ops j).a) := (HBR.out.cell (p := ⟨b, off + j * 4 + 1, none⟩) hbl).trans i1
          have y2 : wr.cell? ⟨b, off + j * 4 + 2, none⟩ = some (.int .i64 (ops j).b) := (HBR.out.cell (p := ⟨b, off + j * 4 + 2, none⟩) hbl).trans i2
          have y3 : wr.cell? ⟨b, off + j * 4 + 3, none⟩ = some (.string (ops j).s) := (HBR.out.cell (p := ⟨b, off + j * 4 + 3, none⟩) hbl).trans i3
          obtain ⟨⟨q1, q2⟩, g1, g2, g3⟩ := HBD.out j hlt
          have HC := step_any j (ops j).k (ops j).a (ops j).b (ops j).s g1 g2 q1 q2 g3 (by omega) HG.out
          clear hcs i0 i1 i2 i3 g1 g2 g3 q1 q2
          generalize (ops j).a = OA at *
          generalize (ops j).b = OB at *
          generalize (ops j).s = OS at *
          generalize (ops j).k = K at *
          by_cases hk1 : K < fr
          · have HG2 : Hid (GS6 B w0 wr Q P R P' R' (j + 1)) := HG.out.mono (by omega)
            clear HC HG
            go_wp2
            go_roundw
            case rel => exact ⟨j + 1, by omega, by go_num, HG2.out⟩
            case measure => simp [intOf]; omega
          · by_cases hk2 : to_ < K
            · have HG2 : Hid (GS6 B w0 wr Q P R P' R' (j + 1)) := HG.out.mono (by omega)
              have hk3 : fr ≤ K := by omega
              clear HC HG hk1
              go_wp2
              go_roundw
              case rel => exact ⟨j + 1, by omega, by go_num, HG2.out⟩
              case measure => simp [intOf]; omega
            · have hk3 : fr ≤ K := by omega
              have hk4 : K ≤ to_ := by omega
              clear HG hk1 hk2
              go_wp2_with fail
              refine HC.mono ?_
              rintro e w2 ⟨rfl, hg2⟩
              have HG2 : Hid (GS6 B w0 w2 Q P R P' R' (j + 1)) := hg2
              clear HC hg2 y0 y1 y2 y3
              go_wp2
              go_roundw
              case rel => exact ⟨j + 1, by omega, by go_num, HG2.out⟩
              case measure => simp [intOf]; omega
      · obtain rfl : j = n := by omega
        clear hlt HG
        go_wp2
        go_ret
        exact ⟨rfl, HBR.out⟩
set_option maxHeartbeats 1000000 in
theorem hears_said (g : Nat → Int) (ao : Option Addr) (n cap : Nat) (ops : Nat → Op) (w : World) (hn : n ≤ 1048576) (hops : OpsAt w ao n ops) (hb : ∀ i, i < n → (-9223372036854775808 ≤ (ops i).a ∧ (ops i).a ≤ 9223372036854775807) ∧ -9223372036854775808 ≤ (ops i).b ∧ (ops i).b ≤ 9223372036854775807 ∧ (ops i).s.size ≤ 1048576) :
    Calls Tryz.prog 3 #[.agg #[.int .i64 (g 0), .int .i64 (g 1), .int .i64 (g 2)], .agg #[.int .i64 (g 3), .int .i64 (g 4), .int .i64 (g 5)], .slice ao n cap] w fun e w' => e = .returned (.bool true) ∧ Below w.heap.size w w' := by
  have HP : ∀ W, Below w.heap.size w W → Calls Tryz.prog 5 #[.agg #[.int .i64 (g 0), .int .i64 (g 1), .int .i64 (g 2)], .agg #[.int .i64 (g 3), .int .i64 (g 4), .int .i64 (g 5)], .slice ao n cap, .int .i64 5, .int .i64 9] W fun e w' => e = .returned (.bool true) ∧ Below w.heap.size w w' := fun W hW =>
    (played_any g ao n cap ops 5 9 W hn (hops.stay hW) hb).mono (fun e w' ⟨h1, h2⟩ => ⟨h1, hW.trans (h2.mono hW.size)⟩)
  have B0 : Below w.heap.size w ((w.alloc (.cells #[.int .i64 (g 0), .int .i64 (g 1), .int .i64 (g 2)] 23)).alloc (.cells #[.int .i64 (g 3), .int .i64 (g 4), .int .i64 (g 5)] 23)) := ((Below.refl _ _).alloc (Nat.le_refl _) _).alloc (by simp) _
  have HP1 := HP _ B0
  clear HP hops hb B0
  go_enter Tryz.func3, Tryz.ntmps3
  go_wp2_with fail
  refine HP1.mono ?_
  rintro e w1 ⟨rfl, hb1⟩
  clear HP1
  go_wp2
  go_ret
  exact ⟨rfl, hb1⟩
set_option maxHeartbeats 1000000 in
theorem all_said (g : Nat → Int) (ao : Option Addr) (n cap : Nat) (ops : Nat → Op) (w : World) (hn : n ≤ 1048576) (hops : OpsAt w ao n ops) (hb : ∀ i, i < n → (-9223372036854775808 ≤ (ops i).a ∧ (ops i).a ≤ 9223372036854775807) ∧ -9223372036854775808 ≤ (ops i).b ∧ (ops i).b ≤ 9223372036854775807 ∧ (ops i).s.size ≤ 1048576) :
    Calls Tryz.prog 4 #[.agg #[.int .i64 (g 0), .int .i64 (g 1), .int .i64 (g 2)], .agg #[.int .i64 (g 3), .int .i64 (g 4), .int .i64 (g 5)], .slice ao n cap] w fun e w' => e = .returned (.bool true) ∧ Below w.heap.size w w' := by
  have HP : ∀ W, Below w.heap.size w W → Calls Tryz.prog 5 #[.agg #[.int .i64 (g 0), .int .i64 (g 1), .int .i64 (g 2)], .agg #[.int .i64 (g 3), .int .i64 (g 4), .int .i64 (g 5)], .slice ao n cap, .int .i64 1, .int .i64 10] W fun e w' => e = .returned (.bool true) ∧ Below w.heap.size w w' := fun W hW =>
    (played_any g ao n cap ops 1 10 W hn (hops.stay hW) hb).mono (fun e w' ⟨h1, h2⟩ => ⟨h1, hW.trans (h2.mono hW.size)⟩)
  have B0 : Below w.heap.size w ((w.alloc (.cells #[.int .i64 (g 0), .int .i64 (g 1), .int .i64 (g 2)] 23)).alloc (.cells #[.int .i64 (g 3), .int .i64 (g 4), .int .i64 (g 5)] 23)) := ((Below.refl _ _).alloc (Nat.le_refl _) _).alloc (by simp) _
  have HP1 := HP _ B0
  clear HP hops hb B0
  go_enter Tryz.func4, Tryz.ntmps4
  go_wp2_with fail
  refine HP1.mono ?_
  rintro e w1 ⟨rfl, hb1⟩
  clear HP1
  go_wp2
  go_ret
  exact ⟨rfl, hb1⟩
end Sn
end Go.Proofs.YtkgnmcekeeannaaGreat
/-
  What the law's steps are, opened; their numbers, too.
-/
namespace Go.Proofs.YtkgnmcekeeannaaGreat
open Go.ChangeShapes Go.WideShapes Go.ChangeAt Go.RowKit Go.Deep
namespace Sn
open Bs
set_option linter.unusedVariables false

section
variable {H : Type} {enc : TypeId × Value → H} {w : World} {base : Nat} {spare : Nat → Bool} {held : Bool}
set_option maxRecDepth 100000 in
theorem open_op6 {n : Nat} {cs : List Value} {x : DataW H × List MemPlace} (h : DataW.trod enc Tryz.prog w base spare held n 32 cs = some x) :
    ∃ o : Op, cs = [.int .i64 o.k, .int .i64 o.a, .int .i64 o.b, .string o.s] ∧ (-9223372036854775808 ≤ o.a ∧ o.a ≤ 9223372036854775807) ∧ -9223372036854775808 ≤ o.b ∧ o.b ≤ 9223372036854775807 ∧ o.s.size ≤ Rows.uptoBulk x.1 := by
  obtain ⟨xs, k, _, hx, hl, hxl, hf⟩ := DataW.trod_struct Tryz.underlying32 h
  rw [cellsOp] at hl
  match cs, hl, xs, hxl with
  | [v0, v1, v2, v3], _, [y0, y1, y2, y3], _ =>
    have g0 := hf 0 _ rfl
    have g1 := hf 1 _ rfl
    have g2 := hf 2 _ rfl
    have g3 := hf 3 _ rfl
    simp [cellsI, cellsS] at g0 g1 g2 g3
    obtain ⟨a, ha, _⟩ := DataW.trod_int Tryz.underlying3 g0
    obtain ⟨b, hb, _, wfa⟩ := DataW.trod_int Tryz.underlying3 g1
    obtain ⟨c, hc, _, wf⟩ := DataW.trod_int Tryz.underlying3 g2
    obtain ⟨s, hs, ey, _⟩ := DataW.trod_string Tryz.underlying9 g3
    simp at ha hb hc hs
    have hw := wf_i64 wf
    have hwa := wf_i64 wfa
    refine ⟨⟨a, b, c, s⟩, by rw [ha, hb, hc, hs], hwa, hw.1, hw.2, ?_⟩
    rw [hx]
    simp only [List.map_cons, List.map_nil, Rows.uptoBulk, Rows.uptoBulkAll, ey]
    have : s.data.toList.length = s.size := by rw [Array.length_toList]; rfl
    show s.size ≤ _
    omega
theorem open_ops6 {n : Nat} {cs : List Value} {x : DataW H × List MemPlace} (h : DataW.trod enc Tryz.prog w base spare held n 24 cs = some x) :
    ∃ (ao : Option Addr) (len cap : Nat) (ops : Nat → Op), cs = [.slice ao len cap] ∧ OpsAt w ao len ops ∧ len ≤ Rows.uptoBulk x.1 ∧ ∀ i, i < len → (-9223372036854775808 ≤ (ops i).a ∧ (ops i).a ≤ 9223372036854775807) ∧ -9223372036854775808 ≤ (ops i).b ∧ (ops i).b ≤ 9223372036854775807 ∧ (ops i).s.size ≤ Rows.uptoBulk x.1 := by
  rcases open_slice Tryz.underlying24 h with ⟨hcs, hx⟩ | ⟨a, len, cap, m, k, D, Pl, hcs, hb, hl, hm, hmm, hx, hel⟩
  · exact ⟨none, 0, 0, fun _ => ⟨0, 0, 0, ⟨#[]⟩⟩, hcs, .inl rfl, Nat.zero_le _, fun i hi => by omega⟩
  · have hlm : len ≤ m := by rw [hmm]; split <;> omega
    have hbk : ∀ i, i < len → Rows.uptoBulk (D i) ≤ Rows.uptoBulk x.1 := fun i hi => by
      rw [hx]
      simp only [Rows.uptoBulk]
      have := bulk_mem (d := D i) (l := (List.range len).map D) (List.mem_map.2 ⟨i, List.mem_range.2 hi, rfl⟩)
      omega
    have hln : len ≤ Rows.uptoBulk x.1 := by
      rw [hx]
      simp only [Rows.uptoBulk]
      have := bulk_len ((List.range len).map D)
      simp only [List.length_map, List.length_range] at this
      omega
    have each : ∀ i, i < len → ∃ t : Op, (w.cell? (a.add (i * 4)) = some (.int .i64 t.k) ∧ w.cell? (a.add (i * 4 + 1)) = some (.int .i64 t.a) ∧ w.cell? (a.add (i * 4 + 2)) = some (.int .i64 t.b) ∧ w.cell? (a.add (i * 4 + 3)) = some (.string t.s)) ∧ (-9223372036854775808 ≤ t.a ∧ t.a ≤ 9223372036854775807) ∧ -9223372036854775808 ≤ t.b ∧ t.b ≤ 9223372036854775807 ∧ t.s.size ≤ Rows.uptoBulk x.1 := by
      intro i hi
      obtain ⟨cs', h1, h2⟩ := hel i (by omega)
      rw [cellsOp] at h1
      obtain ⟨_, _, hc⟩ := World.cells?_some h1
      obtain ⟨t, rfl, b0, b1, b2, b3⟩ := open_op6 h2
      have c0 := hc 0 (by decide)
      have c1 := hc 1 (by decide)
      have c2 := hc 2 (by decide)
      have c3 := hc 3 (by decide)
      rw [add_add] at c0 c1 c2 c3
      exact ⟨t, ⟨by simpa using c0, by simpa using c1, by simpa using c2, by simpa using c3⟩, b0, b1, b2, Nat.le_trans b3 (hbk i hi)⟩
    have inh : Inhabited Op := ⟨⟨0, 0, 0, ⟨#[]⟩⟩⟩
    obtain ⟨ops, hops⟩ := choose_lt each
    refine ⟨some a, len, cap, ops, hcs, ?_, hln, fun i hi => (hops i hi).2⟩
    by_cases h0 : len = 0
    · exact .inl h0
    · right
      obtain ⟨b, off, spot⟩ := a
      have hspot : spot = none := by simpa [Addr.add] using World.cell?_spot (hops 0 (by omega)).1.1
      subst hspot
      have hblk : b < w.heap.size := by
        have h := (hops 0 (by omega)).1.1
        rw [add_eq] at h
        unfold World.cell? at h
        by_cases e : b < w.heap.size
        · exact e
        · have hn : w.heap[b]? = none := by simp; omega
          simp only [hn] at h
          cases h
      refine ⟨b, off, rfl, hblk, fun i hi => ?_⟩
      have := (hops i hi).1
      rw [add_eq, add_eq, add_eq, add_eq] at this
      simpa [Nat.add_assoc] using this
end
end Sn
end Go.Proofs.YtkgnmcekeeannaaGreat
