import Derived.Test.YtkgnmcekeeannaaGreatY43
import Derived.Test.YtkgnmcekeeannaaGreatRows
import Derived.ProofKit
import Derived.OpenShut
import Derived.ShutString
import Derived.SizedLaws
import Derived.Deep.Slices
/-
  The law Sends.
-/
namespace Go.Proofs.YtkgnmcekeeannaaGreat
open Go.RowKit Go.Deep
namespace Sn
open Bs
set_option linter.unusedVariables false

structure Op where
  k : Int
  a : Int
  b : Int
  s : ByteArray
def OpsAt (w : World) (ao : Option Addr) (n : Nat) (ops : Nat → Op) : Prop :=
  n = 0 ∨ ∃ b off, ao = some ⟨b, off, none⟩ ∧ b < w.heap.size ∧ ∀ i, i < n → w.cell? ⟨b, off + i * 4, none⟩ = some (.int .i64 (ops i).k) ∧ w.cell? ⟨b, off + i * 4 + 1, none⟩ = some (.int .i64 (ops i).a) ∧ w.cell? ⟨b, off + i * 4 + 2, none⟩ = some (.int .i64 (ops i).b) ∧ w.cell? ⟨b, off + i * 4 + 3, none⟩ = some (.string (ops i).s)
/-- the game behind j steps -/
def GS (B : Nat) (w0 wr : World) (Q : Nat) (va vb : Value) (ps qs : List (Option Nat)) (P0 R0 P1 R1 j : Nat) : Prop :=
  ∃ C vc on s0 s1 l0 l1, Mem B w0 wr C Q va vb vc ps qs on 1 2 3 4 P0 R0 P1 R1 s0 s1 l0 l1 ∧ (∃ T, Rel s0 l0 T) ∧ (∃ T, Rel s1 l1 T) ∧ SOkC s0 j ∧ SOkC s1 j ∧ on.length ≤ j
theorem GS.mono {B : Nat} {w0 wr : World} {Q : Nat} {va vb : Value} {ps qs : List (Option Nat)} {P0 R0 P1 R1 j j' : Nat} (h : GS B w0 wr Q va vb ps qs P0 R0 P1 R1 j) (hj : j ≤ j') : GS B w0 wr Q va vb ps qs P0 R0 P1 R1 j' := by
  obtain ⟨C, vc, on, s0, s1, l0, l1, m, r0, r1, o0, o1, hl⟩ := h
  exact ⟨C, vc, on, s0, s1, l0, l1, m, r0, r1, o0.mono hj, o1.mono hj, by omega⟩
theorem sends_step {B : Nat} {w0 wr : World} {Q : Nat} {va vb : Value} {ps qs : List (Option Nat)} {P0 R0 P1 R1 j : Nat} (kd A Bv : Int) (tx : ByteArray) (hk : kd = 1 ∨ kd = 2 ∨ kd = 3) (h1 : -9223372036854775808 ≤ Bv) (h2 : Bv ≤ 9223372036854775807) (htx : tx.size ≤ 1048576)
    (hps : ps = [some P0, some P1]) (hqs : qs = [some R0, some R1]) (hj : j ≤ 1099511627776) (h : GS B w0 wr Q va vb ps qs P0 R0 P1 R1 j) :
    Calls Tryz.prog 11 #[.pointer (some ⟨Q, 0, none⟩), .agg #[.int .i64 kd, .int .i64 A, .int .i64 Bv, .string tx]] wr fun e w' => e = .returned (.bool true) ∧ GS B w0 w' Q va vb ps qs P0 R0 P1 R1 (j + 1) := by
  obtain ⟨C, vc, on, s0, s1, l0, l1, m, r0, r1, o0, o1, hl⟩ := h
  obtain ⟨r, hr, HP⟩ := pickAll Bv 2 h1 h2 (by omega) (by omega)
  have hpl : ps.length = 2 := by rw [hps]; rfl
  have hql : qs.length = 2 := by rw [hqs]; rfl
  by_cases e : r = 0
  · have hp : ps[r]? = some (some P0) := by rw [hps, e]; rfl
    have hq : qs[r]? = some (some R0) := by rw [hqs, e]; rfl
    have fin : ∀ (e : Ending) (w' : World), (e = .returned (.bool true) ∧ Stepped B w0 w' Q va vb ps qs (on.length + 1) 1 2 3 4 P0 R0 P1 R1 s1 l1 (j + 1)) → e = .returned (.bool true) ∧ GS B w0 w' Q va vb ps qs P0 R0 P1 R1 (j + 1) := by
      rintro e w' ⟨he, C', vc', on', s', l', m', r', o', hl'⟩
      exact ⟨he, C', vc', on', s', s1, l', l1, m', r', r1, o', o1.mono (by omega), by omega⟩
    rcases hk with rfl | rfl | rfl
    · exact (sends_enq r j hr A Bv tx HP htx hp hq hpl hql m r0 o0 (by omega) (by omega)).mono fin
    · exact (sends_next r j hr A Bv tx HP htx hp hq hpl hql m r0 o0 (by omega) (by omega)).mono fin
    · exact (sends_hear r j hr A Bv tx HP htx hp hq hpl hql m r0 o0 (by omega) (by omega)).mono fin
  · have e1 : r = 1 := by omega
    have hp : ps[r]? = some (some P1) := by rw [hps, e1]; rfl
    have hq : qs[r]? = some (some R1) := by rw [hqs, e1]; rfl
    have fin : ∀ (e : Ending) (w' : World), (e = .returned (.bool true) ∧ Stepped B w0 w' Q va vb ps qs (on.length + 1) 3 4 1 2 P1 R1 P0 R0 s0 l0 (j + 1)) → e = .returned (.bool true) ∧ GS B w0 w' Q va vb ps qs P0 R0 P1 R1 (j + 1) := by
      rintro e w' ⟨he, C', vc', on', s', l', m', r', o', hl'⟩
      exact ⟨he, C', vc', on', s0, s', l0, l', m'.swap, r0, r', o0.mono (by omega), o', by omega⟩
    rcases hk with rfl | rfl | rfl
    · exact (sends_enq r j hr A Bv tx HP htx hp hq hpl hql m.swap r1 o1 (by omega) (by omega)).mono fin
    · exact (sends_next r j hr A Bv tx HP htx hp hq hpl hql m.swap r1 o1 (by omega) (by omega)).mono fin
    · exact (sends_hear r j hr A Bv tx HP htx hp hq hpl hql m.swap r1 o1 (by omega) (by omega)).mono fin
theorem gs_zero {B : Nat} {w0 w : World} {N Q : Nat} {g : Nat → Int} {C : Nat → Nat} {va vb : Value} {ps qs : List (Option Nat)} (h : SG B w0 w N Q 2 true g C va vb ps qs) (hp : ps.length = 2) (hq : qs.length = 2) :
    ∃ P0 R0 P1 R1, ps = [some P0, some P1] ∧ qs = [some R0, some R1] ∧ GS B w0 w Q va vb ps qs P0 R0 P1 R1 0 := by
  obtain ⟨P0, R0, n0, a1, a2, a3, a4, a5⟩ := h.each rfl 0 (by omega)
  obtain ⟨P1, R1, n1, b1, b2, b3, b4, b5⟩ := h.each rfl 1 (by omega)
  have two : ∀ (l : List (Option Nat)) (x y : Nat), l.length = 2 → l[0]? = some (some x) → l[1]? = some (some y) → l = [some x, some y] := by
    intro l x y hl h0 h1
    match l, hl with
    | [p, q], _ =>
      simp at h0 h1
      rw [h0, h1]
  have e1 := two ps P0 P1 hp a1 b1
  have e2 := two qs R0 R1 hq a2 b2
  refine ⟨P0, R0, P1, R1, e1, e2, C, .slice none 0 0, [], St.fresh n0, St.fresh n1, LS.fresh n0, LS.fresh n1, ?_, ⟨_, Rel.new n0⟩, ⟨_, Rel.new n1⟩, SOkC.new a3, SOkC.new b3, by simp⟩
  exact ⟨⟨by decide, by decide, by decide, by decide, by decide, by decide, by decide, by decide, by decide, by decide, by decide, by decide, by decide, by decide⟩, a4, a5, b4, b5, h.wm, h.bel, h.low, h.room⟩

end Sn
end Go.Proofs.YtkgnmcekeeannaaGreat
/-
  What the law's steps are, opened.
-/
namespace Go.Proofs.YtkgnmcekeeannaaGreat
open Go.ChangeShapes Go.WideShapes Go.ChangeAt Go.RowKit Go.Deep
namespace Sn
open Bs
set_option linter.unusedVariables false

theorem cellsOp : Tryz.prog.cellsOf 32 = 4 := by kernel_rfl
theorem cellsSet : Tryz.prog.cellsOf 23 = 3 := by kernel_rfl
theorem cellsI : Tryz.prog.cellsOf 3 = 1 := by kernel_rfl
theorem cellsS : Tryz.prog.cellsOf 9 = 1 := by kernel_rfl
theorem bulk_pos {H : Type} (d : DataW H) : 0 < Rows.uptoBulk d := by
  cases d with
  | lit l => cases l <;> simp [Rows.uptoBulk]
  | _ => simp [Rows.uptoBulk]
theorem bulk_mem {H : Type} {d : DataW H} : ∀ {l : List (DataW H)}, d ∈ l → Rows.uptoBulk d ≤ Rows.uptoBulkAll l
  | x :: r, h => by
    simp only [Rows.uptoBulkAll]
    rcases List.mem_cons.1 h with e | e
    · subst e; omega
    · have := bulk_mem e; omega
theorem bulk_len {H : Type} : ∀ l : List (DataW H), l.length ≤ Rows.uptoBulkAll l
  | [] => by simp
  | x :: r => by
    have h1 := bulk_len r
    have h2 := bulk_pos x
    simp only [List.length_cons, Rows.uptoBulkAll]
    omega
theorem wf_i64 {n : Int} (h : (Lit.int .i64 n).wf = true) : -9223372036854775808 ≤ n ∧ n ≤ 9223372036854775807 := by
  simp only [Lit.wf, Bool.and_eq_true, decide_eq_true_eq] at h
  exact ⟨h.1, h.2⟩
section
variable {H : Type} {enc : TypeId × Value → H} {w : World} {base : Nat} {spare : Nat → Bool} {held : Bool}
set_option maxRecDepth 100000 in
theorem open_set {n : Nat} {cs : List Value} {x : DataW H × List MemPlace} (h : DataW.trod enc Tryz.prog w base spare held n 23 cs = some x) : ∃ a b c : Int, cs = [.int .i64 a, .int .i64 b, .int .i64 c] := by
  obtain ⟨xs, k, _, _, hl, hxl, hf⟩ := DataW.trod_struct Tryz.underlying23 h
  rw [cellsSet] at hl
  match cs, hl, xs, hxl with
  | [v0, v1, v2], _, [y0, y1, y2], _ =>
    have g0 := hf 0 _ rfl
    have g1 := hf 1 _ rfl
    have g2 := hf 2 _ rfl
    simp [cellsI] at g0 g1 g2
    obtain ⟨a, ha, _⟩ := DataW.trod_int Tryz.underlying3 g0
    obtain ⟨b, hb, _⟩ := DataW.trod_int Tryz.underlying3 g1
    obtain ⟨c, hc, _⟩ := DataW.trod_int Tryz.underlying3 g2
    simp at ha hb hc
    exact ⟨a, b, c, by rw [ha, hb, hc]⟩
set_option maxRecDepth 100000 in
theorem open_op {n : Nat} {cs : List Value} {x : DataW H × List MemPlace} (h : DataW.trod enc Tryz.prog w base spare held n 32 cs = some x) :
    ∃ o : Op, cs = [.int .i64 o.k, .int .i64 o.a, .int .i64 o.b, .string o.s] ∧ -9223372036854775808 ≤ o.b ∧ o.b ≤ 9223372036854775807 ∧ o.s.size ≤ Rows.uptoBulk x.1 := by
  obtain ⟨xs, k, _, hx, hl, hxl, hf⟩ := DataW.trod_struct Tryz.underlying32 h
  rw [cellsOp] at hl
  match cs, hl, xs, hxl with
  | [v0, v1, v2, v3], _, [y0, y1, y2, y3], _ =>
    have g0 := hf 0 _ rfl
    have g1 := hf 1 _ rfl
    have g2 := hf 2 _ rfl
    have g3 := hf 3 _ rfl
    simp [cellsI, cellsS] at g0 g1 g2 g3
    obtain ⟨a, ha, _⟩ := DataW.trod_int Tryz.underlying3 g0
    obtain ⟨b, hb, _⟩ := DataW.trod_int Tryz.underlying3 g1
    obtain ⟨c, hc, _, wf⟩ := DataW.trod_int Tryz.underlying3 g2
    obtain ⟨s, hs, ey, _⟩ := DataW.trod_string Tryz.underlying9 g3
    simp at ha hb hc hs
    have hw := wf_i64 wf
    refine ⟨⟨a, b, c, s⟩, by rw [ha, hb, hc, hs], hw.1, hw.2, ?_⟩
    rw [hx]
    simp only [List.map_cons, List.map_nil, Rows.uptoBulk, Rows.uptoBulkAll, ey]
    have : s.data.toList.length = s.size := by rw [Array.length_toList]; rfl
    show s.size ≤ _
    omega
theorem open_ops {n : Nat} {cs : List Value} {x : DataW H × List MemPlace} (h : DataW.trod enc Tryz.prog w base spare held n 24 cs = some x) :
    ∃ (ao : Option Addr) (len cap : Nat) (ops : Nat → Op), cs = [.slice ao len cap] ∧ OpsAt w ao len ops ∧ len ≤ Rows.uptoBulk x.1 ∧ ∀ i, i < len → -9223372036854775808 ≤ (ops i).b ∧ (ops i).b ≤ 9223372036854775807 ∧ (ops i).s.size ≤ Rows.uptoBulk x.1 := by
  rcases open_slice Tryz.underlying24 h with ⟨hcs, hx⟩ | ⟨a, len, cap, m, k, D, Pl, hcs, hb, hl, hm, hmm, hx, hel⟩
  · exact ⟨none, 0, 0, fun _ => ⟨0, 0, 0, ⟨#[]⟩⟩, hcs, .inl rfl, Nat.zero_le _, fun i hi => by omega⟩
  · have hlm : len ≤ m := by rw [hmm]; split <;> omega
    have hbk : ∀ i, i < len → Rows.uptoBulk (D i) ≤ Rows.uptoBulk x.1 := fun i hi => by
      rw [hx]
      simp only [Rows.uptoBulk]
      have := bulk_mem (d := D i) (l := (List.range len).map D) (List.mem_map.2 ⟨i, List.mem_range.2 hi, rfl⟩)
      omega
    have hln : len ≤ Rows.uptoBulk x.1 := by
      rw [hx]
      simp only [Rows.uptoBulk]
      have := bulk_len ((List.range len).map D)
      simp only [List.length_map, List.length_range] at this
      omega
    have each : ∀ i, i < len → ∃ t : Op, (w.cell? (a.add (i * 4)) = some (.int .i64 t.k) ∧ w.cell? (a.add (i * 4 + 1)) = some (.int .i64 t.a) ∧ w.cell? (a.add (i * 4 + 2)) = some (.int .i64 t.b) ∧ w.cell? (a.add (i * 4 + 3)) = some (.string t.s)) ∧ -9223372036854775808 ≤ t.b ∧ t.b ≤ 9223372036854775807 ∧ t.s.size ≤ Rows.uptoBulk x.1 := by
      intro i hi
      obtain ⟨cs', h1, h2⟩ := hel i (by omega)
      rw [cellsOp] at h1
      obtain ⟨_, _, hc⟩ := World.cells?_some h1
      obtain ⟨t, rfl, b1, b2, b3⟩ := open_op h2
      have c0 := hc 0 (by decide)
      have c1 := hc 1 (by decide)
      have c2 := hc 2 (by decide)
      have c3 := hc 3 (by decide)
      rw [add_add] at c0 c1 c2 c3
      exact ⟨t, ⟨by simpa using c0, by simpa using c1, by simpa using c2, by simpa using c3⟩, b1, b2, Nat.le_trans b3 (hbk i hi)⟩
    have inh : Inhabited Op := ⟨⟨0, 0, 0, ⟨#[]⟩⟩⟩
    obtain ⟨ops, hops⟩ := choose_lt each
    refine ⟨some a, len, cap, ops, hcs, ?_, hln, fun i hi => (hops i hi).2⟩
    by_cases h0 : len = 0
    · exact .inl h0
    · right
      obtain ⟨b, off, spot⟩ := a
      have hspot : spot = none := by simpa [Addr.add] using World.cell?_spot (hops 0 (by omega)).1.1
      subst hspot
      have hblk : b < w.heap.size := by
        have h := (hops 0 (by omega)).1.1
        rw [add_eq] at h
        unfold World.cell? at h
        by_cases e : b < w.heap.size
        · exact e
        · have hn : w.heap[b]? = none := by simp; omega
          simp only [hn] at h
          cases h
      refine ⟨b, off, rfl, hblk, fun i hi => ?_⟩
      have := (hops i hi).1
      rw [add_eq, add_eq, add_eq, add_eq] at this
      simpa [Nat.add_assoc] using this
end
end Sn
end Go.Proofs.YtkgnmcekeeannaaGreat
