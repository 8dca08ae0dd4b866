import Derived.Test.YtkgnmcekeeannaaGreatY28
/-
  One step of the law's game: sends.
-/
namespace Go.Proofs.YtkgnmcekeeannaaGreat
open Go.RowKit Go.Deep
namespace Sn
open Bs
set_option linter.unusedVariables false

theorem owns_slot {w : World} {e n : Nat} {v : Value} {xs : List Value} (h : w.ownsRow 0 e 1 v n xs) (h0 : 0 < n) : ∃ g cap, v = .slice (some ⟨g, 0, none⟩) n cap ∧ ∀ j x, xs[j]? = some x → w.cell? ⟨g, j, none⟩ = some x := by
  rcases h.2 with ⟨_, e⟩ | ⟨g, cap, cur, e, _⟩
  · omega
  · subst e
    have hc := h.cells (g := g) rfl
    exact ⟨g, cap, rfl, fun j x hx => by have := hc j x hx; rw [add_eq0] at this; exact this⟩
theorem ptrs_get {l : List (Option Nat)} {i p : Nat} (h : l[i]? = some (some p)) : (ptrs l)[i]? = some (.pointer (some ⟨p, 0, none⟩)) := by
  unfold ptrs
  rw [List.getElem?_map, h]; rfl
def Stepped (B : Nat) (w0 w' : World) (Q : Nat) (va vb : Value) (ps qs : List (Option Nat)) (n : Nat) (kl kr ml mr P R P' R' : Nat) (s' : St) (l' : LS) (c : Nat) : Prop :=
  ∃ C' vc' on' s1 l1, Mem B w0 w' C' Q va vb vc' ps qs on' kl kr ml mr P R P' R' s1 s' l1 l' ∧ (∃ T, Rel s1 l1 T) ∧ SOkC s1 c ∧ on'.length ≤ n
theorem bool_true : Ending.returned (.bool true) = Ending.returned (.bool true) := rfl
section
variable {B : Nat} {w0 w w1 : World} {C : Nat → Nat} {Q : Nat} {va vb vc : Value} {ps qs : List (Option Nat)} {on : List ByteArray} {kl kr ml mr P R P' R' : Nat} {s s' : St} {l l' : LS}
set_option maxRecDepth 100000 in
set_option maxHeartbeats 4000000 in
theorem sends_enq (i c : Nat) (hi : i < 2) (A Bv : Int) (tx : ByteArray) (HPk : ∀ w, Calls Tryz.prog 18 #[.int .i64 Bv, .int .i64 2] w fun e w' => e = .returned (.int .i64 i) ∧ w' = w)
    (htx : tx.size ≤ 1048576) (hps : ps[i]? = some (some P)) (hqs : qs[i]? = some (some R)) (hpl : ps.length = 2) (hql : qs.length = 2) (hM : Mem B w0 w C Q va vb vc ps qs on kl kr ml mr P R P' R' s s' l l') (hrel : ∃ T, Rel s l T) (hok : SOkC s c) (hc : c ≤ 4611686018427387904) (hon : on.length ≤ 1099511627776) :
    Calls Tryz.prog 11 #[.pointer (some ⟨Q, 0, none⟩), .agg #[.int .i64 1, .int .i64 A, .int .i64 Bv, .string tx]] w fun e w' => e = .returned (.bool true) ∧ Stepped B w0 w' Q va vb ps qs (on.length + 1) kl kr ml mr P R P' R' s' l' (c + 1) := by
  have B0 : Below w.heap.size w (w.alloc (.cells #[.int .i64 1, .int .i64 A, .int .i64 Bv, .string tx] 32)) := (Below.refl _ _).alloc (Nat.le_refl _) _
  obtain ⟨T, hT⟩ := hrel
  have HT : Hid (Rel s l T) := hT
  have HOK : Hid (SOkC s c) := hok
  have HOK2 : Hid (LOk2 l) := hT.ok2 hok
  have HS2 : Hid (SOk2 s) := hok.ok2 hc
  have o3 : (w.alloc (.cells #[.int .i64 1, .int .i64 A, .int .i64 Bv, .string tx] 32)).cell? ⟨w.heap.size, 3, none⟩ = some (.string tx) := cell_new rfl rfl
  have o0 : (w.alloc (.cells #[.int .i64 1, .int .i64 A, .int .i64 Bv, .string tx] 32)).cell? ⟨w.heap.size, 0, none⟩ = some (.int .i64 1) := cell_new rfl rfl
  have o2 : (w.alloc (.cells #[.int .i64 1, .int .i64 A, .int .i64 Bv, .string tx] 32)).cell? ⟨w.heap.size, 2, none⟩ = some (.int .i64 Bv) := cell_new rfl rfl
  have nW : w.heap.size < (w.alloc (.cells #[.int .i64 1, .int .i64 A, .int .i64 Bv, .string tx] 32)).heap.size := by simp
  have M1 := hM.above B0
  obtain ⟨C1, hC1⟩ : ∃ C1 : Nat → Nat, C1 = fun b => if w.heap.size ≤ b then 0 else C b := ⟨_, rfl⟩
  rw [← hC1] at M1
  have n0 : C1 w.heap.size = 0 := by rw [hC1]; simp
  clear hC1 hT hok
  obtain ⟨ga, ca, rfl, hga⟩ := owns_slot M1.wm.a (by omega)
  obtain ⟨gb, cb, rfl, hgb⟩ := owns_slot M1.wm.b (by omega)
  have a0 : (w.alloc (.cells #[.int .i64 1, .int .i64 A, .int .i64 Bv, .string tx] 32)).cell? ⟨Q, 0, none⟩ = some (.slice (some ⟨ga, 0, none⟩) ps.length ca) := M1.wm.row.cell (by decide)
  have a1 : (w.alloc (.cells #[.int .i64 1, .int .i64 A, .int .i64 Bv, .string tx] 32)).cell? ⟨Q, 1, none⟩ = some (.slice (some ⟨gb, 0, none⟩) qs.length cb) := M1.wm.row.cell (by decide)
  have a2 := hga i _ (ptrs_get hps)
  have a3 := hgb i _ (ptrs_get hqs)
  have HPL : Hid (ps.length = 2) := hpl
  have HQL : Hid (qs.length = 2) := hql
  obtain ⟨LP, hLP⟩ : ∃ n, n = ps.length := ⟨_, rfl⟩
  obtain ⟨LQ, hLQ⟩ : ∃ n, n = qs.length := ⟨_, rfl⟩
  have HLP : Hid (LP = ps.length) := hLP
  have HLQ : Hid (LQ = qs.length) := hLQ
  rw [← hLP] at a0 hpl
  rw [← hLQ] at a1 hql
  rw [← hLP, ← hLQ] at M1 ⊢
  have HM1 : Hid (Mem B w0 (w.alloc (.cells #[.int .i64 1, .int .i64 A, .int .i64 Bv, .string tx] 32)) C1 Q (.slice (some ⟨ga, 0, none⟩) LP ca) (.slice (some ⟨gb, 0, none⟩) LQ cb) vc ps qs on kl kr ml mr P R P' R' s s' l l') := M1
  obtain ⟨N, hN⟩ : ∃ N, N = w.heap.size := ⟨_, rfl⟩
  obtain ⟨W, hW⟩ : ∃ W, W = w.alloc (.cells #[.int .i64 1, .int .i64 A, .int .i64 Bv, .string tx] 32) := ⟨_, rfl⟩
  clear M1 hM hga hgb hLP hLQ hps hqs B0 HPL HQL HLP HLQ
  rw [← hW] at o3 o0 o2 nW a0 a1 a2 a3 HM1
  go_enter Tryz.func11, Tryz.ntmps11
  go_wp2_with fail
  simp only [← hW]
  refine (HPk _).mono ?_
  rintro e w1 ⟨rfl, rfl⟩
  clear HPk hW
  rw [← hN] at o3 o0 o2 nW n0 ⊢
  clear hN
  have HEL := rEnqueue l tx P (fun b => C1 b = kl) w1 HOK2.out.base (by unfold maxLen; omega) HM1.out.pl
  obtain ⟨eq2, T', hT'⟩ := HT.out.enq HOK.out tx
  rw [show (l.enq tx).2.1 = (enq s tx).2.1 from by rw [eq2], show (l.enq tx).2.2 = (enq s tx).2.2 from by rw [eq2]] at HEL
  have HER := fun (C2 : Nat → Nat) (W2 : World) (h : SndAt W2 R s (fun b => C2 b = kr)) => refEnqueue s tx R (fun b => C2 b = kr) W2 HOK.out.base (by unfold maxLen; omega) h
  have HT' : Hid (∃ T, Rel (enq s tx).1 (l.enq tx).1 T) := ⟨T', hT'⟩
  have HO' : Hid (SOkC (enq s tx).1 (c + 1)) := (HOK.out.enq tx).mono (by omega)
  clear hT' eq2
  generalize (enq s tx).1 = S1 at *
  generalize (l.enq tx).1 = L1 at *
  generalize (enq s tx).2.1 = r1 at *
  generalize (enq s tx).2.2 = r2 at *
  go_wp2_with fail
  refine HEL.mono ?_
  rintro e w2 ⟨rfl, hl2, t2⟩
  have M2 := HM1.out.landed t2 hl2
  have o3' : w2.cell? ⟨N, 3, none⟩ = some (.string tx) := t2.cell nW (fun e => HM1.out.col.k (by rw [← e, n0])) o3
  have HER2 := HER _ w2 M2.pr
  have HM2 : Hid (Mem B w0 w2 (paint C1 kl w1.heap.size) Q (.slice (some ⟨ga, 0, none⟩) LP ca) (.slice (some ⟨gb, 0, none⟩) LQ cb) vc ps qs on kl kr ml mr P R P' R' s s' L1 l') := M2
  clear HEL HER hl2 t2 M2 HM1 a0 a1 a2 a3 o0 o2 o3
  go_wp2_with fail
  refine HER2.mono ?_
  rintro e w3 ⟨rfl, hr3, t3⟩
  have HM3 : Hid (∃ C3, Mem B w0 w3 C3 Q (.slice (some ⟨ga, 0, none⟩) LP ca) (.slice (some ⟨gb, 0, none⟩) LQ cb) vc ps qs on kl kr ml mr P R P' R' S1 s' L1 l') := ⟨_, HM2.out.refd t3 hr3⟩
  clear HER2 hr3 t3 HM2 o3'
  go_wp2
  go_ret
  obtain ⟨C3, m3⟩ := HM3.out
  exact ⟨by simp, C3, vc, on, S1, L1, m3, HT'.out, HO'.out, by omega⟩

set_option maxRecDepth 100000 in
set_option maxHeartbeats 4000000 in
theorem sends_hear (i c : Nat) (hi : i < 2) (A Bv : Int) (tx : ByteArray) (HPk : ∀ w, Calls Tryz.prog 18 #[.int .i64 Bv, .int .i64 2] w fun e w' => e = .returned (.int .i64 i) ∧ w' = w)
    (htx : tx.size ≤ 1048576) (hps : ps[i]? = some (some P)) (hqs : qs[i]? = some (some R)) (hpl : ps.length = 2) (hql : qs.length = 2) (hM : Mem B w0 w C Q va vb vc ps qs on kl kr ml mr P R P' R' s s' l l') (hrel : ∃ T, Rel s l T) (hok : SOkC s c) (hc : c ≤ 4611686018427387904) (hon : on.length ≤ 1099511627776) :
    Calls Tryz.prog 11 #[.pointer (some ⟨Q, 0, none⟩), .agg #[.int .i64 3, .int .i64 A, .int .i64 Bv, .string tx]] w fun e w' => e = .returned (.bool true) ∧ Stepped B w0 w' Q va vb ps qs (on.length + 1) kl kr ml mr P R P' R' s' l' (c + 1) := by
  have B0 : Below w.heap.size w (w.alloc (.cells #[.int .i64 3, .int .i64 A, .int .i64 Bv, .string tx] 32)) := (Below.refl _ _).alloc (Nat.le_refl _) _
  obtain ⟨T, hT⟩ := hrel
  have HT : Hid (Rel s l T) := hT
  have HOK : Hid (SOkC s c) := hok
  have HOK2 : Hid (LOk2 l) := hT.ok2 hok
  have HS2 : Hid (SOk2 s) := hok.ok2 hc
  have o3 : (w.alloc (.cells #[.int .i64 3, .int .i64 A, .int .i64 Bv, .string tx] 32)).cell? ⟨w.heap.size, 3, none⟩ = some (.string tx) := cell_new rfl rfl
  have o0 : (w.alloc (.cells #[.int .i64 3, .int .i64 A, .int .i64 Bv, .string tx] 32)).cell? ⟨w.heap.size, 0, none⟩ = some (.int .i64 3) := cell_new rfl rfl
  have o2 : (w.alloc (.cells #[.int .i64 3, .int .i64 A, .int .i64 Bv, .string tx] 32)).cell? ⟨w.heap.size, 2, none⟩ = some (.int .i64 Bv) := cell_new rfl rfl
  have nW : w.heap.size < (w.alloc (.cells #[.int .i64 3, .int .i64 A, .int .i64 Bv, .string tx] 32)).heap.size := by simp
  have M1 := hM.above B0
  obtain ⟨C1, hC1⟩ : ∃ C1 : Nat → Nat, C1 = fun b => if w.heap.size ≤ b then 0 else C b := ⟨_, rfl⟩
  rw [← hC1] at M1
  have n0 : C1 w.heap.size = 0 := by rw [hC1]; simp
  clear hC1 hT hok
  obtain ⟨ga, ca, rfl, hga⟩ := owns_slot M1.wm.a (by omega)
  obtain ⟨gb, cb, rfl, hgb⟩ := owns_slot M1.wm.b (by omega)
  have a0 : (w.alloc (.cells #[.int .i64 3, .int .i64 A, .int .i64 Bv, .string tx] 32)).cell? ⟨Q, 0, none⟩ = some (.slice (some ⟨ga, 0, none⟩) ps.length ca) := M1.wm.row.cell (by decide)
  have a1 : (w.alloc (.cells #[.int .i64 3, .int .i64 A, .int .i64 Bv, .string tx] 32)).cell? ⟨Q, 1, none⟩ = some (.slice (some ⟨gb, 0, none⟩) qs.length cb) := M1.wm.row.cell (by decide)
  have a2 := hga i _ (ptrs_get hps)
  have a3 := hgb i _ (ptrs_get hqs)
  have HPL : Hid (ps.length = 2) := hpl
  have HQL : Hid (qs.length = 2) := hql
  obtain ⟨LP, hLP⟩ : ∃ n, n = ps.length := ⟨_, rfl⟩
  obtain ⟨LQ, hLQ⟩ : ∃ n, n = qs.length := ⟨_, rfl⟩
  have HLP : Hid (LP = ps.length) := hLP
  have HLQ : Hid (LQ = qs.length) := hLQ
  rw [← hLP] at a0 hpl
  rw [← hLQ] at a1 hql
  rw [← hLP, ← hLQ] at M1 ⊢
  have HM1 : Hid (Mem B w0 (w.alloc (.cells #[.int .i64 3, .int .i64 A, .int .i64 Bv, .string tx] 32)) C1 Q (.slice (some ⟨ga, 0, none⟩) LP ca) (.slice (some ⟨gb, 0, none⟩) LQ cb) vc ps qs on kl kr ml mr P R P' R' s s' l l') := M1
  obtain ⟨N, hN⟩ : ∃ N, N = w.heap.size := ⟨_, rfl⟩
  obtain ⟨W, hW⟩ : ∃ W, W = w.alloc (.cells #[.int .i64 3, .int .i64 A, .int .i64 Bv, .string tx] 32) := ⟨_, rfl⟩
  clear M1 hM hga hgb hLP hLQ hps hqs B0 HPL HQL HLP HLQ
  rw [← hW] at o3 o0 o2 nW a0 a1 a2 a3 HM1
  go_enter Tryz.func11, Tryz.ntmps11
  go_wp2_with fail
  simp only [← hW]
  refine (HPk _).mono ?_
  rintro e w1 ⟨rfl, rfl⟩
  clear HPk hW
  rw [← hN] at o3 o0 o2 nW n0 ⊢
  clear hN
  obtain ⟨ao, co, D, hLI⟩ := HM1.out.pl
  have HEL := rHear l tx P (fun b => C1 b = kl) ao co D w1 HOK2.out.base HOK2.out.ow8 htx hLI
  have HER := fun (C2 : Nat → Nat) (W2 : World) (h : SndAt W2 R s (fun b => C2 b = kr)) => refHear s tx R (fun b => C2 b = kr) W2 HS2.out htx h
  clear hLI
  go_wp2_with fail
  refine HEL.mono ?_
  rintro e w2 ⟨l1, ho, hl2, t2⟩
  have M2 := HM1.out.landed t2 (LndAt.mono ⟨ao, co, D, hl2⟩ (fun b hb _ => .inl hb))
  have HER2 := HER _ w2 M2.pr
  have HM2 : Hid (Mem B w0 w2 (paint C1 kl w1.heap.size) Q (.slice (some ⟨ga, 0, none⟩) LP ca) (.slice (some ⟨gb, 0, none⟩) LQ cb) vc ps qs on kl kr ml mr P R P' R' s s' l1 l') := M2
  clear HEL HER hl2 t2 M2 HM1 a0 a1 a2 a3 o0 o2 o3
  rcases ho with ⟨m, h3, h4, rfl, rfl⟩ | ⟨h3, rfl, rfl⟩
  · have hits : ∀ t ∈ m.items, Ms.itOK t := by
      rcases h3.1 with h | h | h
      · rw [h4] at h; exact absurd h.1 (by decide)
      · exact h.2.2.2.2.2
      · rw [h4] at h; exact absurd h.1 (by decide)
    have HT' : Hid (∃ T, Rel ⟨s.n, s.objs, dues s m.items, s.sent⟩ (l.anss m.items) T) := ⟨T, HT.out.dues HOK.out m.items hits⟩
    have HO' : Hid (SOkC ⟨s.n, s.objs, dues s m.items, s.sent⟩ (c + 1)) := (HOK.out.dues m.items).mono (by omega)
    have H3 : Hid (Ms.Tells tx m) := h3
    have H4 : Hid (m.kind = 2) := h4
    clear hits h3 h4
    go_wp2_with fail
    refine HER2.mono ?_
    rintro e w3 ⟨hr, t3⟩
    rcases hr with ⟨m', h5, h6, rfl, hr3⟩ | ⟨h5, _, _⟩
    · have em : m' = m := by rw [← Ms.tells_lan h5, Ms.tells_lan H3.out]
      rw [em] at hr3
      have HM3 : Hid (∃ C3, Mem B w0 w3 C3 Q (.slice (some ⟨ga, 0, none⟩) LP ca) (.slice (some ⟨gb, 0, none⟩) LQ cb) vc ps qs on kl kr ml mr P R P' R' ⟨s.n, s.objs, dues s m.items, s.sent⟩ s' (l.anss m.items) l') := ⟨_, HM2.out.refd t3 hr3⟩
      clear HER2 hr3 t3 HM2 h5 h6 em
      go_wp2
      go_ret
      obtain ⟨C3, m3⟩ := HM3.out
      exact ⟨by simp, C3, vc, on, _, _, m3, HT'.out, HO'.out, by omega⟩
    · exact absurd H4.out (h5 m H3.out)
  · have H3 : Hid (∀ m, Ms.Tells tx m → m.kind ≠ 2) := h3
    clear h3
    go_wp2_with fail
    refine HER2.mono ?_
    rintro e w3 ⟨hr, t3⟩
    rcases hr with ⟨m', h5, h6, _, _⟩ | ⟨_, rfl, hr3⟩
    · exact absurd h6 (H3.out m' h5)
    · have HM3 : Hid (∃ C3, Mem B w0 w3 C3 Q (.slice (some ⟨ga, 0, none⟩) LP ca) (.slice (some ⟨gb, 0, none⟩) LQ cb) vc ps qs on kl kr ml mr P R P' R' s s' l1 l') := ⟨_, HM2.out.refd t3 hr3⟩
      clear HER2 hr3 t3 HM2
      go_wp2
      go_ret
      obtain ⟨C3, m3⟩ := HM3.out
      exact ⟨by simp, C3, vc, on, _, _, m3, ⟨T, HT.out⟩, HOK.out.mono (by omega), by omega⟩

set_option maxRecDepth 100000 in
set_option maxHeartbeats 4000000 in
theorem sends_next (i c : Nat) (hi : i < 2) (A Bv : Int) (tx : ByteArray) (HPk : ∀ w, Calls Tryz.prog 18 #[.int .i64 Bv, .int .i64 2] w fun e w' => e = .returned (.int .i64 i) ∧ w' = w)
    (htx : tx.size ≤ 1048576) (hps : ps[i]? = some (some P)) (hqs : qs[i]? = some (some R)) (hpl : ps.length = 2) (hql : qs.length = 2) (hM : Mem B w0 w C Q va vb vc ps qs on kl kr ml mr P R P' R' s s' l l') (hrel : ∃ T, Rel s l T) (hok : SOkC s c) (hc : c ≤ 4611686018427387904) (hon : on.length ≤ 1099511627776) :
    Calls Tryz.prog 11 #[.pointer (some ⟨Q, 0, none⟩), .agg #[.int .i64 2, .int .i64 A, .int .i64 Bv, .string tx]] w fun e w' => e = .returned (.bool true) ∧ Stepped B w0 w' Q va vb ps qs (on.length + 1) kl kr ml mr P R P' R' s' l' (c + 1) := by
  have B0 : Below w.heap.size w (w.alloc (.cells #[.int .i64 2, .int .i64 A, .int .i64 Bv, .string tx] 32)) := (Below.refl _ _).alloc (Nat.le_refl _) _
  obtain ⟨T, hT⟩ := hrel
  have HT : Hid (Rel s l T) := hT
  have HOK : Hid (SOkC s c) := hok
  have HOK2 : Hid (LOk2 l) := hT.ok2 hok
  have HS2 : Hid (SOk2 s) := hok.ok2 hc
  have o3 : (w.alloc (.cells #[.int .i64 2, .int .i64 A, .int .i64 Bv, .string tx] 32)).cell? ⟨w.heap.size, 3, none⟩ = some (.string tx) := cell_new rfl rfl
  have o0 : (w.alloc (.cells #[.int .i64 2, .int .i64 A, .int .i64 Bv, .string tx] 32)).cell? ⟨w.heap.size, 0, none⟩ = some (.int .i64 2) := cell_new rfl rfl
  have o2 : (w.alloc (.cells #[.int .i64 2, .int .i64 A, .int .i64 Bv, .string tx] 32)).cell? ⟨w.heap.size, 2, none⟩ = some (.int .i64 Bv) := cell_new rfl rfl
  have nW : w.heap.size < (w.alloc (.cells #[.int .i64 2, .int .i64 A, .int .i64 Bv, .string tx] 32)).heap.size := by simp
  have M1 := hM.above B0
  obtain ⟨C1, hC1⟩ : ∃ C1 : Nat → Nat, C1 = fun b => if w.heap.size ≤ b then 0 else C b := ⟨_, rfl⟩
  rw [← hC1] at M1
  have n0 : C1 w.heap.size = 0 := by rw [hC1]; simp
  clear hC1 hT hok
  obtain ⟨ga, ca, rfl, hga⟩ := owns_slot M1.wm.a (by omega)
  obtain ⟨gb, cb, rfl, hgb⟩ := owns_slot M1.wm.b (by omega)
  have a0 : (w.alloc (.cells #[.int .i64 2, .int .i64 A, .int .i64 Bv, .string tx] 32)).cell? ⟨Q, 0, none⟩ = some (.slice (some ⟨ga, 0, none⟩) ps.length ca) := M1.wm.row.cell (by decide)
  have a1 : (w.alloc (.cells #[.int .i64 2, .int .i64 A, .int .i64 Bv, .string tx] 32)).cell? ⟨Q, 1, none⟩ = some (.slice (some ⟨gb, 0, none⟩) qs.length cb) := M1.wm.row.cell (by decide)
  have a2 := hga i _ (ptrs_get hps)
  have a3 := hgb i _ (ptrs_get hqs)
  have HPL : Hid (ps.length = 2) := hpl
  have HQL : Hid (qs.length = 2) := hql
  obtain ⟨LP, hLP⟩ : ∃ n, n = ps.length := ⟨_, rfl⟩
  obtain ⟨LQ, hLQ⟩ : ∃ n, n = qs.length := ⟨_, rfl⟩
  have HLP : Hid (LP = ps.length) := hLP
  have HLQ : Hid (LQ = qs.length) := hLQ
  rw [← hLP] at a0 hpl
  rw [← hLQ] at a1 hql
  rw [← hLP, ← hLQ] at M1 ⊢
  have HM1 : Hid (Mem B w0 (w.alloc (.cells #[.int .i64 2, .int .i64 A, .int .i64 Bv, .string tx] 32)) C1 Q (.slice (some ⟨ga, 0, none⟩) LP ca) (.slice (some ⟨gb, 0, none⟩) LQ cb) vc ps qs on kl kr ml mr P R P' R' s s' l l') := M1
  obtain ⟨N, hN⟩ : ∃ N, N = w.heap.size := ⟨_, rfl⟩
  obtain ⟨W, hW⟩ : ∃ W, W = w.alloc (.cells #[.int .i64 2, .int .i64 A, .int .i64 Bv, .string tx] 32) := ⟨_, rfl⟩
  clear M1 hM hga hgb hLP hLQ hps hqs B0 HPL HQL HLP HLQ
  rw [← hW] at o3 o0 o2 nW a0 a1 a2 a3 HM1
  go_enter Tryz.func11, Tryz.ntmps11
  go_wp2_with fail
  simp only [← hW]
  refine (HPk _).mono ?_
  rintro e w1 ⟨rfl, rfl⟩
  clear HPk hW
  rw [← hN] at o3 o0 o2 nW n0 ⊢
  clear hN
  obtain ⟨ao, co, D, hLI⟩ := HM1.out.pl
  have HEL := rNext l P (fun b => C1 b = kl) ao co D w1 HOK2.out hLI
  have HER := fun (C2 : Nat → Nat) (W2 : World) (h : SndAt W2 R s (fun b => C2 b = kr)) => refNext s R (fun b => C2 b = kr) W2 HS2.out h
  clear hLI
  go_wp2_with fail
  refine HEL.mono ?_
  rintro e w2 ⟨l1, ho, hl2, t2⟩
  obtain ⟨rfl, T', hT'⟩ := HT.out.nxt HOK.out ho
  have HT' : Hid (∃ T, Rel (nxt s).1 l1 T) := ⟨T', hT'⟩
  have HO' : Hid (SOkC (nxt s).1 (c + 1)) := HOK.out.nxt
  have M2 := HM1.out.landed t2 (LndAt.mono ⟨ao, co, D, hl2⟩ (fun b hb _ => .inl hb))
  have HER2 := HER _ w2 M2.pr
  have HM2 : Hid (Mem B w0 w2 (paint C1 kl w1.heap.size) Q (.slice (some ⟨ga, 0, none⟩) LP ca) (.slice (some ⟨gb, 0, none⟩) LQ cb) vc ps qs on kl kr ml mr P R P' R' s s' l1 l') := M2
  clear HEL HER hl2 t2 M2 HM1 a0 a1 a2 a3 o0 o2 o3 ho hT'
  generalize (nxt s).1 = S1 at *
  generalize (nxt s).2 = X at *
  go_wp2_with fail
  refine HER2.mono ?_
  rintro e w3 ⟨rfl, hr3, t3⟩
  have m3 := HM2.out.refd t3 hr3
  obtain ⟨C3, hC3⟩ : ∃ C3, C3 = paint (paint C1 kl w1.heap.size) kr w2.heap.size := ⟨_, rfl⟩
  rw [← hC3] at m3
  have HM3 : Hid (Mem B w0 w3 C3 Q (.slice (some ⟨ga, 0, none⟩) LP ca) (.slice (some ⟨gb, 0, none⟩) LQ cb) vc ps qs on kl kr ml mr P R P' R' S1 s' l1 l') := m3
  have c4 : w3.cell? ⟨Q, 4, none⟩ = some vc := m3.wm.row.cell (by decide)
  have OW : Hid (w3.ownsRow 0 9 1 vc on.length (strs on)) := m3.wm.c
  obtain ⟨i0, hi0, hz0, hz1, hz2⟩ := info_parts3 infoStr
  obtain ⟨n, hn⟩ : ∃ n, n = on.length := ⟨_, rfl⟩
  have HNN : Hid (n = on.length) := hn
  rw [← hn] at OW hon
  clear HER2 hr3 t3 HM2 m3 hC3 hn
  generalize hXS : strs on = XS at *
  have HXS : Hid (strs on = XS) := hXS
  clear hXS
  go_wp2_with (at_builtin; refine wpList_append_own_at _ rfl _ _ 45 rfl 0 9 i0 (.string ⟨#[]⟩) 1 16 Tryz.underlying45 hi0 hz0 hz1 hz2 rfl (by decide) vc n XS rfl (OW.out.alloc _) ⟨w3.heap.size, 0, none⟩ 1 1 [.string X] rfl rfl Cod.one_news (by intro u hu; simp at hu; subst hu; rfl) (by unfold maxLen; omega) (by omega) (Nat.zero_le _) ?_)
  intro v' w4 hown' hgrow _ hat
  obtain ⟨ao2, co2, rfl⟩ := owns_form hown'
  rw [← HXS.out] at hown'
  have hown2 := hown'
  rw [HNN.out] at hown2
  have HM4 : Hid (Mem B w0 (w4.setCell ⟨Q, 4, none⟩ (.slice ao2 (n + 1) co2)) (paint C3 5 w3.heap.size) Q (.slice (some ⟨ga, 0, none⟩) LP ca) (.slice (some ⟨gb, 0, none⟩) LQ cb) (.slice ao2 (n + 1) co2) ps qs (on ++ [X]) kl kr ml mr P R P' R' S1 s' l1 l') := by
    have h := HM3.out.onto (x := X) hown2 hgrow (by rw [← HNN.out]; simpa using hat)
    rw [← HNN.out] at h
    exact h
  have R4 := HM3.out.wm.row.of_block (grown_block hgrow HM3.out.wm.row.lt HM3.out.wm.cq)
  have c4' : w4.cell? ⟨Q, 4, none⟩ = some vc := R4.cell (by decide)
  have f4' := R4.frozen 4
  clear hown' hown2 hgrow hat R4 c4 OW HM3
  go_wp2
  go_ret
  exact ⟨by simp, _, _, on ++ [X], S1, l1, HM4.out, HT'.out, HO'.out, by simp⟩

end
end Sn
end Go.Proofs.YtkgnmcekeeannaaGreat
/-
  The law's game begins: what it takes.
-/
namespace Go.Proofs.YtkgnmcekeeannaaGreat
open Go.RowKit Go.Deep
namespace Sn
open Bs
set_option linter.unusedVariables false

theorem rightE_ok {n : Nm} (h : n.ok) : rightE n.size n.block n.spare = 0 := by
  obtain ⟨h1, h2, h3, h4, h5⟩ := h
  unfold rightE
  rw [if_neg (by omega), if_neg (by omega), if_neg (by omega)]
theorem nm_eq {n m : Nm} (h1 : (n.size : Int) = m.size) (h2 : (n.block : Int) = m.block) (h3 : (n.spare : Int) = m.spare) : n = m := by
  cases n; cases m
  simp only [Nm.mk.injEq] at *
  omega
theorem newL (n : Nm) (hn : n.ok) (W : World) : Calls Tryz.prog 14 #[.int .i64 n.size, .int .i64 n.block, .int .i64 n.spare] W fun e w' => ∃ P, e = .returned (.tuple #[.pointer (some ⟨P, 0, none⟩), .int .i64 0]) ∧ LndAt w' P (LS.fresh n) (fun x => W.heap.size ≤ x ∧ x < w'.heap.size) ∧ Below W.heap.size W w' := by
  refine (lanNewSender n.size n.block n.spare W).mono ?_
  rintro e w' ⟨ho, hb⟩
  rcases ho with ⟨h, _⟩ | ⟨m, P, hm, e1, e2, e3, rfl, hl⟩
  · exact absurd (rightE_ok hn) h
  · rw [← nm_eq e1 e2 e3] at hl
    exact ⟨P, rfl, hl, hb⟩
theorem newR (n : Nm) (hn : n.ok) (W : World) : Calls Tryz.prog 15 #[.int .i64 n.size, .int .i64 n.block, .int .i64 n.spare] W fun e w' => ∃ P, e = .returned (.tuple #[.pointer (some ⟨P, 0, none⟩), .int .i64 0]) ∧ SndAt w' P (St.fresh n) (fun x => W.heap.size ≤ x ∧ x < w'.heap.size) ∧ Below W.heap.size W w' := by
  refine (refNewSender n.size n.block n.spare W).mono ?_
  rintro e w' ⟨ho, hb⟩
  rcases ho with ⟨h, _⟩ | ⟨m, P, hm, e1, e2, e3, rfl, hl⟩
  · exact absurd (rightE_ok hn) h
  · rw [← nm_eq e1 e2 e3] at hl
    exact ⟨P, rfl, hl, hb⟩
theorem badL (a b c : Int) (h : rightE a b c ≠ 0) (W : World) : Calls Tryz.prog 14 #[.int .i64 a, .int .i64 b, .int .i64 c] W fun e w' => e = .returned (.tuple #[.pointer none, .int .i64 (rightE a b c)]) ∧ Below W.heap.size W w' := by
  refine (lanNewSender a b c W).mono ?_
  rintro e w' ⟨ho, hb⟩
  rcases ho with ⟨_, rfl⟩ | ⟨m, P, hm, rfl, rfl, rfl, _⟩
  · exact ⟨rfl, hb⟩
  · exact absurd (rightE_ok hm) h
theorem badR (a b c : Int) (h : rightE a b c ≠ 0) (W : World) : Calls Tryz.prog 15 #[.int .i64 a, .int .i64 b, .int .i64 c] W fun e w' => e = .returned (.tuple #[.pointer none, .int .i64 (rightE a b c)]) ∧ Below W.heap.size W w' := by
  refine (refNewSender a b c W).mono ?_
  rintro e w' ⟨ho, hb⟩
  rcases ho with ⟨_, rfl⟩ | ⟨m, P, hm, rfl, rfl, rfl, _⟩
  · exact ⟨rfl, hb⟩
  · exact absurd (rightE_ok hm) h

def arrF (g : Nat → Int) (j : Nat) : Value := .int .i64 (g j)
/-- the game in the making: k pairs stand -/
structure SG (B : Nat) (w0 w : World) (N Q k : Nat) (gv : Bool) (g : Nat → Int) (C : Nat → Nat) (va vb : Value) (ps qs : List (Option Nat)) : Prop where
  wm : WM w Q (fun b => C b = 5) va vb (.slice none 0 0) ps qs []
  arr : w.rowIs N 30 6 (arrF g)
  bel : Below B w0 w
  low : ∀ b, b < B → C b = 0
  room : B ≤ w.heap.size
  cN : C N = 0
  each : gv = true → ∀ j, j < k → ∃ P R n, ps[j]? = some (some P) ∧ qs[j]? = some (some R) ∧ n.ok ∧ LndAt w P (LS.fresh n) (fun b => C b = 2 * j + 1) ∧ SndAt w R (St.fresh n) (fun b => C b = 2 * j + 2)
  rgt : gv = true → ∀ j, j < k → rightE (g (j * 3)) (g (j * 3 + 1)) (g (j * 3 + 2)) = 0
section
variable {B : Nat} {w0 w w1 : World} {C : Nat → Nat} {N Q k : Nat} {gv : Bool} {g : Nat → Int} {va vb : Value} {ps qs : List (Option Nat)}
theorem SG.touch {c : Nat} (h : SG B w0 w N Q k gv g C va vb ps qs) (t : Touch w w1 (fun b => C b = c)) (c0 : c ≠ 0) (c5 : c ≠ 5) (cj : ∀ j, j < k → c ≠ 2 * j + 1 ∧ c ≠ 2 * j + 2) : SG B w0 w1 N Q k gv g (paint C c w.heap.size) va vb ps qs :=
  ⟨stay_w (fun e => c5 e.symm) h.wm t, h.arr.of_block (t.block _ h.arr.lt (fun e => c0 (by rw [← e, h.cN]))), below_touch h.bel h.low t c0 h.room, keep_low h.low h.room c, by have := h.room; have := t.size; omega, by rw [paint_old h.arr.lt]; exact h.cN, fun hg j hj => by
    obtain ⟨P, R, n, e1, e2, e3, e4, e5⟩ := h.each hg j hj
    exact ⟨P, R, n, e1, e2, e3, stay_l (fun e => (cj j hj).1 e.symm) e4 t, stay_r (fun e => (cj j hj).2 e.symm) e5 t⟩, h.rgt⟩
theorem SG.drew (h : SG B w0 w N Q k gv g C va vb ps qs) : SG B w0 w.drew N Q k gv g C va vb ps qs :=
  ⟨h.wm.drew, h.arr, h.bel.drew, h.low, h.room, h.cN, fun hg j hj => by
    obtain ⟨P, R, n, e1, e2, e3, ⟨ao, co, D, e4⟩, e5⟩ := h.each hg j hj
    exact ⟨P, R, n, e1, e2, e3, ⟨ao, co, D, e4.drew⟩, e5.stay (F' := fun b => C b = 2 * j + 2) (Touch.drew (Touch.refl w (fun _ => False))) (fun _ _ h => h) (fun _ h _ => h)⟩, h.rgt⟩
/-- the fresh pair joins, and the lists grow -/
theorem SG.more {o : Obj} {va' : Value} {x : Option Nat} (h : SG B w0 w N Q k gv g C va vb ps qs) (hk : k ≤ ps.length) (hown : w1.ownsRow 0 49 1 va' (ps.length + 1) (ptrs ps ++ [.pointer (x.map (fun b => ⟨b, 0, none⟩))])) (hg : (w.alloc o).grownBy w1 va.ownBlock) (hat : va'.ownBlock = va.ownBlock ∨ va'.ownBlock = some (w.alloc o).heap.size) (hk2 : k ≤ 2) :
    SG B w0 (w1.setCell ⟨Q, 0, none⟩ va') N Q k gv g (paint C 5 w.heap.size) va' vb (ps ++ [x]) qs ∧ Touch w (w1.setCell ⟨Q, 0, none⟩ va') (fun b => C b = 5) := by
  have t : Touch w (w1.setCell ⟨Q, 0, none⟩ va') (fun b => C b = 5) := touch_append hg h.wm.ga h.wm.gq
  have wm := WM.more_a (G' := fun b => paint C 5 w.heap.size b = 5) h.wm hown hg hat (fun b hb => by
    by_cases e : w.heap.size ≤ b
    · exact paint_new e
    · rw [paint_old (by omega)]; exact hb) (fun b hb _ => paint_new hb)
  refine ⟨⟨wm, h.arr.of_block (t.block _ h.arr.lt (fun e => by have := h.cN; rw [e] at this; exact absurd this (by decide))), below_touch h.bel h.low t (by decide) h.room, keep_low h.low h.room 5, by have := h.room; have := t.size; omega, by rw [paint_old h.arr.lt]; exact h.cN, fun hg j hj => ?_, h.rgt⟩, t⟩
  obtain ⟨P, R, n, e1, e2, e3, e4, e5⟩ := h.each hg j hj
  exact ⟨P, R, n, by rw [List.getElem?_append_left (by omega)]; exact e1, e2, e3, stay_l (by omega) e4 t, stay_r (by omega) e5 t⟩
theorem SG.more' {o : Obj} {vb' : Value} {x : Option Nat} (h : SG B w0 w N Q k gv g C va vb ps qs) (hk : k ≤ qs.length) (hown : w1.ownsRow 0 52 1 vb' (qs.length + 1) (ptrs qs ++ [.pointer (x.map (fun b => ⟨b, 0, none⟩))])) (hg : (w.alloc o).grownBy w1 vb.ownBlock) (hat : vb'.ownBlock = vb.ownBlock ∨ vb'.ownBlock = some (w.alloc o).heap.size) (hk2 : k ≤ 2) :
    SG B w0 (w1.setCell ⟨Q, 1, none⟩ vb') N Q k gv g (paint C 5 w.heap.size) va vb' ps (qs ++ [x]) ∧ Touch w (w1.setCell ⟨Q, 1, none⟩ vb') (fun b => C b = 5) := by
  have t : Touch w (w1.setCell ⟨Q, 1, none⟩ vb') (fun b => C b = 5) := touch_append hg h.wm.gb h.wm.gq
  have wm := WM.more_b (G' := fun b => paint C 5 w.heap.size b = 5) h.wm hown hg hat (fun b hb => by
    by_cases e : w.heap.size ≤ b
    · exact paint_new e
    · rw [paint_old (by omega)]; exact hb) (fun b hb _ => paint_new hb)
  refine ⟨⟨wm, h.arr.of_block (t.block _ h.arr.lt (fun e => by have := h.cN; rw [e] at this; exact absurd this (by decide))), below_touch h.bel h.low t (by decide) h.room, keep_low h.low h.room 5, by have := h.room; have := t.size; omega, by rw [paint_old h.arr.lt]; exact h.cN, fun hg j hj => ?_, h.rgt⟩, t⟩
  obtain ⟨P, R, n, e1, e2, e3, e4, e5⟩ := h.each hg j hj
  exact ⟨P, R, n, e1, by rw [List.getElem?_append_left (by omega)]; exact e2, e3, stay_l (by omega) e4 t, stay_r (by omega) e5 t⟩
/-- what comes next is none, or a fresh pair -/
def Fresh (w : World) (C : Nat → Nat) (k : Nat) (p q : Option Nat) : Prop := ∃ P R n, p = some P ∧ q = some R ∧ n.ok ∧ LndAt w P (LS.fresh n) (fun b => C b = 2 * k + 1) ∧ SndAt w R (St.fresh n) (fun b => C b = 2 * k + 2)
theorem Fresh.touch {c : Nat} {p q : Option Nat} (h : Fresh w C k p q) (t : Touch w w1 (fun b => C b = c)) (h1 : c ≠ 2 * k + 1) (h2 : c ≠ 2 * k + 2) : Fresh w1 (paint C c w.heap.size) k p q := by
  obtain ⟨P, R, n, e1, e2, e3, e4, e5⟩ := h
  exact ⟨P, R, n, e1, e2, e3, stay_l (fun e => h1 e.symm) e4 t, stay_r (fun e => h2 e.symm) e5 t⟩
theorem SG.join {p q : Option Nat} {gv' : Bool} (h : SG B w0 w N Q k gv g C va vb (ps ++ [p]) (qs ++ [q])) (hp : ps.length = k) (hq : qs.length = k) (hn : gv' = true → gv = true ∧ Fresh w C k p q ∧ rightE (g (k * 3)) (g (k * 3 + 1)) (g (k * 3 + 2)) = 0) : SG B w0 w N Q (k + 1) gv' g C va vb (ps ++ [p]) (qs ++ [q]) :=
  ⟨h.wm, h.arr, h.bel, h.low, h.room, h.cN, fun hg j hj => by
    obtain ⟨g1, ⟨P, R, n, rfl, rfl, e3, e4, e5⟩, _⟩ := hn hg
    by_cases e : j = k
    · subst e
      exact ⟨P, R, n, by rw [← hp]; simp, by rw [← hq]; simp, e3, e4, e5⟩
    · exact h.each g1 j (by omega), fun hg j hj => by
    obtain ⟨g1, _, e6⟩ := hn hg
    by_cases e : j = k
    · subst e; exact e6
    · exact h.rgt g1 j (by omega)⟩
end
end Sn
end Go.Proofs.YtkgnmcekeeannaaGreat
