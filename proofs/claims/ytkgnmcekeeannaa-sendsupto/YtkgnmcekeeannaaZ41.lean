import Derived.Test.YtkgnmcekeeannaaZ40
/-
  One step of the law's game: sends.
-/
namespace Go.Proofs.Ytkgnmcekeeannaa
open Go.RowKit Go.Deep
namespace Sn
open Bs
set_option linter.unusedVariables false

theorem owns_slot {w : World} {e n : Nat} {v : Value} {xs : List Value} (h : w.ownsRow 0 e 1 v n xs) (h0 : 0 < n) : ∃ g cap, v = .slice (some ⟨g, 0, none⟩) n cap ∧ ∀ j x, xs[j]? = some x → w.cell? ⟨g, j, none⟩ = some x := by
  rcases h.2 with ⟨_, e⟩ | ⟨g, cap, cur, e, _⟩
  · omega
  · subst e
    have hc := h.cells (g := g) rfl
    exact ⟨g, cap, rfl, fun j x hx => by have := hc j x hx; rw [add_eq0] at this; exact this⟩
theorem ptrs_get {l : List (Option Nat)} {i p : Nat} (h : l[i]? = some (some p)) : (ptrs l)[i]? = some (.pointer (some ⟨p, 0, none⟩)) := by
  unfold ptrs
  rw [List.getElem?_map, h]; rfl
def Stepped (B : Nat) (w0 w' : World) (Q : Nat) (va vb : Value) (ps qs : List (Option Nat)) (n : Nat) (kl kr ml mr P R P' R' : Nat) (s' : St) (l' : LS) (c : Nat) : Prop :=
  ∃ C' vc' on' s1 l1, Mem B w0 w' C' Q va vb vc' ps qs on' kl kr ml mr P R P' R' s1 s' l1 l' ∧ (∃ T, Rel s1 l1 T) ∧ SOkC s1 c ∧ on'.length ≤ n
theorem bool_true : Ending.returned (.bool true) = Ending.returned (.bool true) := rfl
section
variable {B : Nat} {w0 w w1 : World} {C : Nat → Nat} {Q : Nat} {va vb vc : Value} {ps qs : List (Option Nat)} {on : List ByteArray} {kl kr ml mr P R P' R' : Nat} {s s' : St} {l l' : LS}
set_option maxRecDepth 100000 in
set_option maxHeartbeats 4000000 in
theorem sends_enq (i c : Nat) (hi : i < 2) (A Bv : Int) (tx : ByteArray) (HPk : ∀ w, Calls Try.prog 54 #[.int .i64 Bv, .int .i64 2] w fun e w' => e = .returned (.int .i64 i) ∧ w' = w)
    (htx : tx.size ≤ 1048576) (hps : ps[i]? = some (some P)) (hqs : qs[i]? = some (some R)) (hpl : ps.length = 2) (hql : qs.length = 2) (hM : Mem B w0 w C Q va vb vc ps qs on kl kr ml mr P R P' R' s s' l l') (hrel : ∃ T, Rel s l T) (hok : SOkC s c) (hc : c ≤ 4611686018427387904) (hon : on.length ≤ 1099511627776) :
    Calls Try.prog 32 #[.pointer (some ⟨Q, 0, none⟩), .agg #[.int .i64 1, .int .i64 A, .int .i64 Bv, .string tx]] w fun e w' => e = .returned (.bool true) ∧ Stepped B w0 w' Q va vb ps qs (on.length + 1) kl kr ml mr P R P' R' s' l' (c + 1) := by
  have B0 : Below w.heap.size w (w.alloc (.cells #[.int .i64 1, .int .i64 A, .int .i64 Bv, .string tx] 59)) := (Below.refl _ _).alloc (Nat.le_refl _) _
  obtain ⟨T, hT⟩ := hrel
  have HT : Hid (Rel s l T) := hT
  have HOK : Hid (SOkC s c) := hok
  have HOK2 : Hid (LOk2 l) := hT.ok2 hok
  have HS2 : Hid (SOk2 s) := hok.ok2 hc
  have o3 : (w.alloc (.cells #[.int .i64 1, .int .i64 A, .int .i64 Bv, .string tx] 59)).cell? ⟨w.heap.size, 3, none⟩ = some (.string tx) := cell_new rfl rfl
  have o0 : (w.alloc (.cells #[.int .i64 1, .int .i64 A, .int .i64 Bv, .string tx] 59)).cell? ⟨w.heap.size, 0, none⟩ = some (.int .i64 1) := cell_new rfl rfl
  have o2 : (w.alloc (.cells #[.int .i64 1, .int .i64 A, .int .i64 Bv, .string tx] 59)).cell? ⟨w.heap.size, 2, none⟩ = some (.int .i64 Bv) := cell_new rfl rfl
  have nW : w.heap.size < (w.alloc (.cells #[.int .i64 1, .int .i64 A, .int .i64 Bv, .string tx] 59)).heap.size := by simp
  have M1 := hM.above B0
  obtain ⟨C1, hC1⟩ : ∃ C1 : Nat → Nat, C1 = fun b => if w.heap.size ≤ b then 0 else C b := ⟨_, rfl⟩
  rw [← hC1] at M1
  have n0 : C1 w.heap.size = 0 := by rw [hC1]; simp
  clear hC1 hT hok
  obtain ⟨ga, ca, rfl, hga⟩ := owns_slot M1.wm.a (by omega)
  obtain ⟨gb, cb, rfl, hgb⟩ := owns_slot M1.wm.b (by omega)
  have a0 : (w.alloc (.cells #[.int .i64 1, .int .i64 A, .int .i64 Bv, .string tx] 59)).cell? ⟨Q, 0, none⟩ = some (.slice (some ⟨ga, 0, none⟩) ps.length ca) := M1.wm.row.cell (by decide)
  have a1 : (w.alloc (.cells #[.int .i64 1, .int .i64 A, .int .i64 Bv, .string tx] 59)).cell? ⟨Q, 1, none⟩ = some (.slice (some ⟨gb, 0, none⟩) qs.length cb) := M1.wm.row.cell (by decide)
  have a2 := hga i _ (ptrs_get hps)
  have a3 := hgb i _ (ptrs_get hqs)
  have HPL : Hid (ps.length = 2) := hpl
  have HQL : Hid (qs.length = 2) := hql
  obtain ⟨LP, hLP⟩ : ∃ n, n = ps.length := ⟨_, rfl⟩
  obtain ⟨LQ, hLQ⟩ : ∃ n, n = qs.length := ⟨_, rfl⟩
  have HLP : Hid (LP = ps.length) := hLP
  have HLQ : Hid (LQ = qs.length) := hLQ
  rw [← hLP] at a0 hpl
  rw [← hLQ] at a1 hql
  rw [← hLP, ← hLQ] at M1 ⊢
  have HM1 : Hid (Mem B w0 (w.alloc (.cells #[.int .i64 1, .int .i64 A, .int .i64 Bv, .string tx] 59)) C1 Q (.slice (some ⟨ga, 0, none⟩) LP ca) (.slice (some ⟨gb, 0, none⟩) LQ cb) vc ps qs on kl kr ml mr P R P' R' s s' l l') := M1
  obtain ⟨N, hN⟩ : ∃ N, N = w.heap.size := ⟨_, rfl⟩
  obtain ⟨W, hW⟩ : ∃ W, W = w.alloc (.cells #[.int .i64 1, .int .i64 A, .int .i64 Bv, .string tx] 59) := ⟨_, rfl⟩
  clear M1 hM hga hgb hLP hLQ hps hqs B0 HPL HQL HLP HLQ
  rw [← hW] at o3 o0 o2 nW a0 a1 a2 a3 HM1
  go_enter Try.func32, Try.ntmps32
  go_wp2_with fail
  simp only [← hW]
  refine (HPk _).mono ?_
  rintro e w1 ⟨rfl, rfl⟩
  clear HPk hW
  rw [← hN] at o3 o0 o2 nW n0 ⊢
  clear hN
  have HEL := rEnqueue l tx P (fun b => C1 b = kl) w1 HOK2.out.base (by unfold maxLen; omega) HM1.out.pl
  obtain ⟨eq2, T', hT'⟩ := HT.out.enq HOK.out tx
  rw [show (l.enq tx).2.1 = (enq s tx).2.1 from by rw [eq2], show (l.enq tx).2.2 = (enq s tx).2.2 from by rw [eq2]] at HEL
  have HER := fun (C2 : Nat → Nat) (W2 : World) (h : SndAt W2 R s (fun b => C2 b = kr)) => refEnqueue s tx R (fun b => C2 b = kr) W2 HOK.out.base (by unfold maxLen; omega) h
  have HT' : Hid (∃ T, Rel (enq s tx).1 (l.enq tx).1 T) := ⟨T', hT'⟩
  have HO' : Hid (SOkC (enq s tx).1 (c + 1)) := (HOK.out.enq tx).mono (by omega)
  clear hT' eq2
  generalize (enq s tx).1 = S1 at *
  generalize (l.enq tx).1 = L1 at *
  generalize (enq s tx).2.1 = r1 at *
  generalize (enq s tx).2.2 = r2 at *
  go_wp2_with fail
  refine HEL.mono ?_
  rintro e w2 ⟨rfl, hl2, t2⟩
  have M2 := HM1.out.landed t2 hl2
  have o3' : w2.cell? ⟨N, 3, none⟩ = some (.string tx) := t2.cell nW (fun e => HM1.out.col.k (by rw [← e, n0])) o3
  have HER2 := HER _ w2 M2.pr
  have HM2 : Hid (Mem B w0 w2 (paint C1 kl w1.heap.size) Q (.slice (some ⟨ga, 0, none⟩) LP ca) (.slice (some ⟨gb, 0, none⟩) LQ cb) vc ps qs on kl kr ml mr P R P' R' s s' L1 l') := M2
  clear HEL HER hl2 t2 M2 HM1 a0 a1 a2 a3 o0 o2 o3
  go_wp2_with fail
  refine HER2.mono ?_
  rintro e w3 ⟨rfl, hr3, t3⟩
  have HM3 : Hid (∃ C3, Mem B w0 w3 C3 Q (.slice (some ⟨ga, 0, none⟩) LP ca) (.slice (some ⟨gb, 0, none⟩) LQ cb) vc ps qs on kl kr ml mr P R P' R' S1 s' L1 l') := ⟨_, HM2.out.refd t3 hr3⟩
  clear HER2 hr3 t3 HM2 o3'
  go_wp2
  go_ret
  obtain ⟨C3, m3⟩ := HM3.out
  exact ⟨by simp, C3, vc, on, S1, L1, m3, HT'.out, HO'.out, by omega⟩

set_option maxRecDepth 100000 in
set_option maxHeartbeats 4000000 in
theorem sends_hear (i c : Nat) (hi : i < 2) (A Bv : Int) (tx : ByteArray) (HPk : ∀ w, Calls Try.prog 54 #[.int .i64 Bv, .int .i64 2] w fun e w' => e = .returned (.int .i64 i) ∧ w' = w)
    (htx : tx.size ≤ 1048576) (hps : ps[i]? = some (some P)) (hqs : qs[i]? = some (some R)) (hpl : ps.length = 2) (hql : qs.length = 2) (hM : Mem B w0 w C Q va vb vc ps qs on kl kr ml mr P R P' R' s s' l l') (hrel : ∃ T, Rel s l T) (hok : SOkC s c) (hc : c ≤ 4611686018427387904) (hon : on.length ≤ 1099511627776) :
    Calls Try.prog 32 #[.pointer (some ⟨Q, 0, none⟩), .agg #[.int .i64 3, .int .i64 A, .int .i64 Bv, .string tx]] w fun e w' => e = .returned (.bool true) ∧ Stepped B w0 w' Q va vb ps qs (on.length + 1) kl kr ml mr P R P' R' s' l' (c + 1) := by
  have B0 : Below w.heap.size w (w.alloc (.cells #[.int .i64 3, .int .i64 A, .int .i64 Bv, .string tx] 59)) := (Below.refl _ _).alloc (Nat.le_refl _) _
  obtain ⟨T, hT⟩ := hrel
  have HT : Hid (Rel s l T) := hT
  have HOK : Hid (SOkC s c) := hok
  have HOK2 : Hid (LOk2 l) := hT.ok2 hok
  have HS2 : Hid (SOk2 s) := hok.ok2 hc
  have o3 : (w.alloc (.cells #[.int .i64 3, .int .i64 A, .int .i64 Bv, .string tx] 59)).cell? ⟨w.heap.size, 3, none⟩ = some (.string tx) := cell_new rfl rfl
  have o0 : (w.alloc (.cells #[.int .i64 3, .int .i64 A, .int .i64 Bv, .string tx] 59)).cell? ⟨w.heap.size, 0, none⟩ = some (.int .i64 3) := cell_new rfl rfl
  have o2 : (w.alloc (.cells #[.int .i64 3, .int .i64 A, .int .i64 Bv, .string tx] 59)).cell? ⟨w.heap.size, 2, none⟩ = some (.int .i64 Bv) := cell_new rfl rfl
  have nW : w.heap.size < (w.alloc (.cells #[.int .i64 3, .int .i64 A, .int .i64 Bv, .string tx] 59)).heap.size := by simp
  have M1 := hM.above B0
  obtain ⟨C1, hC1⟩ : ∃ C1 : Nat → Nat, C1 = fun b => if w.heap.size ≤ b then 0 else C b := ⟨_, rfl⟩
  rw [← hC1] at M1
  have n0 : C1 w.heap.size = 0 := by rw [hC1]; simp
  clear hC1 hT hok
  obtain ⟨ga, ca, rfl, hga⟩ := owns_slot M1.wm.a (by omega)
  obtain ⟨gb, cb, rfl, hgb⟩ := owns_slot M1.wm.b (by omega)
  have a0 : (w.alloc (.cells #[.int .i64 3, .int .i64 A, .int .i64 Bv, .string tx] 59)).cell? ⟨Q, 0, none⟩ = some (.slice (some ⟨ga, 0, none⟩) ps.length ca) := M1.wm.row.cell (by decide)
  have a1 : (w.alloc (.cells #[.int .i64 3, .int .i64 A, .int .i64 Bv, .string tx] 59)).cell? ⟨Q, 1, none⟩ = some (.slice (some ⟨gb, 0, none⟩) qs.length cb) := M1.wm.row.cell (by decide)
  have a2 := hga i _ (ptrs_get hps)
  have a3 := hgb i _ (ptrs_get hqs)
  have HPL : Hid (ps.length = 2) := hpl
  have HQL : Hid (qs.length = 2) := hql
  obtain ⟨LP, hLP⟩ : ∃ n, n = ps.length := ⟨_, rfl⟩
  obtain ⟨LQ, hLQ⟩ : ∃ n, n = qs.length := ⟨_, rfl⟩
  have HLP : Hid (LP = ps.length) := hLP
  have HLQ : Hid (LQ = qs.length) := hLQ
  rw [← hLP] at a0 hpl
  rw [← hLQ] at a1 hql
  rw [← hLP, ← hLQ] at M1 ⊢
  have HM1 : Hid (Mem B w0 (w.alloc (.cells #[.int .i64 3, .int .i64 A, .int .i64 Bv, .string tx] 59)) C1 Q (.slice (some ⟨ga, 0, none⟩) LP ca) (.slice (some ⟨gb, 0, none⟩) LQ cb) vc ps qs on kl kr ml mr P R P' R' s s' l l') := M1
  obtain ⟨N, hN⟩ : ∃ N, N = w.heap.size := ⟨_, rfl⟩
  obtain ⟨W, hW⟩ : ∃ W, W = w.alloc (.cells #[.int .i64 3, .int .i64 A, .int .i64 Bv, .string tx] 59) := ⟨_, rfl⟩
  clear M1 hM hga hgb hLP hLQ hps hqs B0 HPL HQL HLP HLQ
  rw [← hW] at o3 o0 o2 nW a0 a1 a2 a3 HM1
  go_enter Try.func32, Try.ntmps32
  go_wp2_with fail
  simp only [← hW]
  refine (HPk _).mono ?_
  rintro e w1 ⟨rfl, rfl⟩
  clear HPk hW
  rw [← hN] at o3 o0 o2 nW n0 ⊢
  clear hN
  obtain ⟨ao, co, D, hLI⟩ := HM1.out.pl
  have HEL := rHear l tx P (fun b => C1 b = kl) ao co D w1 HOK2.out.base HOK2.out.ow8 htx hLI
  have HER := fun (C2 : Nat → Nat) (W2 : World) (h : SndAt W2 R s (fun b => C2 b = kr)) => refHear s tx R (fun b => C2 b = kr) W2 HS2.out htx h
  clear hLI
  go_wp2_with fail
  refine HEL.mono ?_
  rintro e w2 ⟨l1, ho, hl2, t2⟩
  have M2 := HM1.out.landed t2 (LndAt.mono ⟨ao, co, D, hl2⟩ (fun b hb _ => .inl hb))
  have HER2 := HER _ w2 M2.pr
  have HM2 : Hid (Mem B w0 w2 (paint C1 kl w1.heap.size) Q (.slice (some ⟨ga, 0, none⟩) LP ca) (.slice (some ⟨gb, 0, none⟩) LQ cb) vc ps qs on kl kr ml mr P R P' R' s s' l1 l') := M2
  clear HEL HER hl2 t2 M2 HM1 a0 a1 a2 a3 o0 o2 o3
  rcases ho with ⟨m, h3, h4, rfl, rfl⟩ | ⟨h3, rfl, rfl⟩
  · have hits : ∀ t ∈ m.items, Ms.itOK t := by
      rcases h3.1 with h | h | h
      · rw [h4] at h; exact absurd h.1 (by decide)
      · exact h.2.2.2.2.2
      · rw [h4] at h; exact absurd h.1 (by decide)
    have HT' : Hid (∃ T, Rel ⟨s.n, s.objs, dues s m.items, s.sent⟩ (l.anss m.items) T) := ⟨T, HT.out.dues HOK.out m.items hits⟩
    have HO' : Hid (SOkC ⟨s.n, s.objs, dues s m.items, s.sent⟩ (c + 1)) := (HOK.out.dues m.items).mono (by omega)
    have H3 : Hid (Ms.Tells tx m) := h3
    have H4 : Hid (m.kind = 2) := h4
    clear hits h3 h4
    go_wp2_with fail
    refine HER2.mono ?_
    rintro e w3 ⟨hr, t3⟩
    rcases hr with ⟨m', h5, h6, rfl, hr3⟩ | ⟨h5, _, _⟩
    · have em : m' = m := by rw [← Ms.tells_lan h5, Ms.tells_lan H3.out]
      rw [em] at hr3
      have HM3 : Hid (∃ C3, Mem B w0 w3 C3 Q (.slice (some ⟨ga, 0, none⟩) LP ca) (.slice (some ⟨gb, 0, none⟩) LQ cb) vc ps qs on kl kr ml mr P R P' R' ⟨s.n, s.objs, dues s m.items, s.sent⟩ s' (l.anss m.items) l') := ⟨_, HM2.out.refd t3 hr3⟩
      clear HER2 hr3 t3 HM2 h5 h6 em
      go_wp2
      go_ret
      obtain ⟨C3, m3⟩ := HM3.out
      exact ⟨by simp, C3, vc, on, _, _, m3, HT'.out, HO'.out, by omega⟩
    · exact absurd H4.out (h5 m H3.out)
  · have H3 : Hid (∀ m, Ms.Tells tx m → m.kind ≠ 2) := h3
    clear h3
    go_wp2_with fail
    refine HER2.mono ?_
    rintro e w3 ⟨hr, t3⟩
    rcases hr with ⟨m', h5, h6, _, _⟩ | ⟨_, rfl, hr3⟩
    · exact absurd h6 (H3.out m' h5)
    · have HM3 : Hid (∃ C3, Mem B w0 w3 C3 Q (.slice (some ⟨ga, 0, none⟩) LP ca) (.slice (some ⟨gb, 0, none⟩) LQ cb) vc ps qs on kl kr ml mr P R P' R' s s' l1 l') := ⟨_, HM2.out.refd t3 hr3⟩
      clear HER2 hr3 t3 HM2
      go_wp2
      go_ret
      obtain ⟨C3, m3⟩ := HM3.out
      exact ⟨by simp, C3, vc, on, _, _, m3, ⟨T, HT.out⟩, HOK.out.mono (by omega), by omega⟩

set_option maxRecDepth 100000 in
set_option maxHeartbeats 4000000 in
theorem sends_next (i c : Nat) (hi : i < 2) (A Bv : Int) (tx : ByteArray) (HPk : ∀ w, Calls Try.prog 54 #[.int .i64 Bv, .int .i64 2] w fun e w' => e = .returned (.int .i64 i) ∧ w' = w)
    (htx : tx.size ≤ 1048576) (hps : ps[i]? = some (some P)) (hqs : qs[i]? = some (some R)) (hpl : ps.length = 2) (hql : qs.length = 2) (hM : Mem B w0 w C Q va vb vc ps qs on kl kr ml mr P R P' R' s s' l l') (hrel : ∃ T, Rel s l T) (hok : SOkC s c) (hc : c ≤ 4611686018427387904) (hon : on.length ≤ 1099511627776) :
    Calls Try.prog 32 #[.pointer (some ⟨Q, 0, none⟩), .agg #[.int .i64 2, .int .i64 A, .int .i64 Bv, .string tx]] w fun e w' => e = .returned (.bool true) ∧ Stepped B w0 w' Q va vb ps qs (on.length + 1) kl kr ml mr P R P' R' s' l' (c + 1) := by
  have B0 : Below w.heap.size w (w.alloc (.cells #[.int .i64 2, .int .i64 A, .int .i64 Bv, .string tx] 59)) := (Below.refl _ _).alloc (Nat.le_refl _) _
  obtain ⟨T, hT⟩ := hrel
  have HT : Hid (Rel s l T) := hT
  have HOK : Hid (SOkC s c) := hok
  have HOK2 : Hid (LOk2 l) := hT.ok2 hok
  have HS2 : Hid (SOk2 s) := hok.ok2 hc
  have o3 : (w.alloc (.cells #[.int .i64 2, .int .i64 A, .int .i64 Bv, .string tx] 59)).cell? ⟨w.heap.size, 3, none⟩ = some (.string tx) := cell_new rfl rfl
  have o0 : (w.alloc (.cells #[.int .i64 2, .int .i64 A, .int .i64 Bv, .string tx] 59)).cell? ⟨w.heap.size, 0, none⟩ = some (.int .i64 2) := cell_new rfl rfl
  have o2 : (w.alloc (.cells #[.int .i64 2, .int .i64 A, .int .i64 Bv, .string tx] 59)).cell? ⟨w.heap.size, 2, none⟩ = some (.int .i64 Bv) := cell_new rfl rfl
  have nW : w.heap.size < (w.alloc (.cells #[.int .i64 2, .int .i64 A, .int .i64 Bv, .string tx] 59)).heap.size := by simp
  have M1 := hM.above B0
  obtain ⟨C1, hC1⟩ : ∃ C1 : Nat → Nat, C1 = fun b => if w.heap.size ≤ b then 0 else C b := ⟨_, rfl⟩
  rw [← hC1] at M1
  have n0 : C1 w.heap.size = 0 := by rw [hC1]; simp
  clear hC1 hT hok
  obtain ⟨ga, ca, rfl, hga⟩ := owns_slot M1.wm.a (by omega)
  obtain ⟨gb, cb, rfl, hgb⟩ := owns_slot M1.wm.b (by omega)
  have a0 : (w.alloc (.cells #[.int .i64 2, .int .i64 A, .int .i64 Bv, .string tx] 59)).cell? ⟨Q, 0, none⟩ = some (.slice (some ⟨ga, 0, none⟩) ps.length ca) := M1.wm.row.cell (by decide)
  have a1 : (w.alloc (.cells #[.int .i64 2, .int .i64 A, .int .i64 Bv, .string tx] 59)).cell? ⟨Q, 1, none⟩ = some (.slice (some ⟨gb, 0, none⟩) qs.length cb) := M1.wm.row.cell (by decide)
  have a2 := hga i _ (ptrs_get hps)
  have a3 := hgb i _ (ptrs_get hqs)
  have HPL : Hid (ps.length = 2) := hpl
  have HQL : Hid (qs.length = 2) := hql
  obtain ⟨LP, hLP⟩ : ∃ n, n = ps.length := ⟨_, rfl⟩
  obtain ⟨LQ, hLQ⟩ : ∃ n, n = qs.length := ⟨_, rfl⟩
  have HLP : Hid (LP = ps.length) := hLP
  have HLQ : Hid (LQ = qs.length) := hLQ
  rw [← hLP] at a0 hpl
  rw [← hLQ] at a1 hql
  rw [← hLP, ← hLQ] at M1 ⊢
  have HM1 : Hid (Mem B w0 (w.alloc (.cells #[.int .i64 2, .int .i64 A, .int .i64 Bv, .string tx] 59)) C1 Q (.slice (some ⟨ga, 0, none⟩) LP ca) (.slice (some ⟨gb, 0, none⟩) LQ cb) vc ps qs on kl kr ml mr P R P' R' s s' l l') := M1
  obtain ⟨N, hN⟩ : ∃ N, N = w.heap.size := ⟨_, rfl⟩
  obtain ⟨W, hW⟩ : ∃ W, W = w.alloc (.cells #[.int .i64 2, .int .i64 A, .int .i64 Bv, .string tx] 59) := ⟨_, rfl⟩
  clear M1 hM hga hgb hLP hLQ hps hqs B0 HPL HQL HLP HLQ
  rw [← hW] at o3 o0 o2 nW a0 a1 a2 a3 HM1
  go_enter Try.func32, Try.ntmps32
  go_wp2_with fail
  simp only [← hW]
  refine (HPk _).mono ?_
  rintro e w1 ⟨rfl, rfl⟩
  clear HPk hW
  rw [← hN] at o3 o0 o2 nW n0 ⊢
  clear hN
  obtain ⟨ao, co, D, hLI⟩ := HM1.out.pl
  have HEL := rNext l P (fun b => C1 b = kl) ao co D w1 HOK2.out hLI
  have HER := fun (C2 : Nat → Nat) (W2 : World) (h : SndAt W2 R s (fun b => C2 b = kr)) => refNext s R (fun b => C2 b = kr) W2 HS2.out h
  clear hLI
  go_wp2_with fail
  refine HEL.mono ?_
  rintro e w2 ⟨l1, ho, hl2, t2⟩
  obtain ⟨rfl, T', hT'⟩ := HT.out.nxt HOK.out ho
  have HT' : Hid (∃ T, Rel (nxt s).1 l1 T) := ⟨T', hT'⟩
  have HO' : Hid (SOkC (nxt s).1 (c + 1)) := HOK.out.nxt
  have M2 := HM1.out.landed t2 (LndAt.mono ⟨ao, co, D, hl2⟩ (fun b hb _ => .inl hb))
  have HER2 := HER _ w2 M2.pr
  have HM2 : Hid (Mem B w0 w2 (paint C1 kl w1.heap.size) Q (.slice (some ⟨ga, 0, none⟩) LP ca) (.slice (some ⟨gb, 0, none⟩) LQ cb) vc ps qs on kl kr ml mr P R P' R' s s' l1 l') := M2
  clear HEL HER hl2 t2 M2 HM1 a0 a1 a2 a3 o0 o2 o3 ho hT'
  generalize (nxt s).1 = S1 at *
  generalize (nxt s).2 = X at *
  go_wp2_with fail
  refine HER2.mono ?_
  rintro e w3 ⟨rfl, hr3, t3⟩
  have m3 := HM2.out.refd t3 hr3
  obtain ⟨C3, hC3⟩ : ∃ C3, C3 = paint (paint C1 kl w1.heap.size) kr w2.heap.size := ⟨_, rfl⟩
  rw [← hC3] at m3
  have HM3 : Hid (Mem B w0 w3 C3 Q (.slice (some ⟨ga, 0, none⟩) LP ca) (.slice (some ⟨gb, 0, none⟩) LQ cb) vc ps qs on kl kr ml mr P R P' R' S1 s' l1 l') := m3
  have c4 : w3.cell? ⟨Q, 4, none⟩ = some vc := m3.wm.row.cell (by decide)
  have OW : Hid (w3.ownsRow 0 9 1 vc on.length (strs on)) := m3.wm.c
  obtain ⟨i0, hi0, hz0, hz1, hz2⟩ := info_parts3 infoStr
  obtain ⟨n, hn⟩ : ∃ n, n = on.length := ⟨_, rfl⟩
  have HNN : Hid (n = on.length) := hn
  rw [← hn] at OW hon
  clear HER2 hr3 t3 HM2 m3 hC3 hn
  generalize hXS : strs on = XS at *
  have HXS : Hid (strs on = XS) := hXS
  clear hXS
  go_wp2_with (at_builtin; refine wpList_append_own_at _ rfl _ _ 84 rfl 0 9 i0 (.string ⟨#[]⟩) 1 16 Try.underlying84 hi0 hz0 hz1 hz2 rfl (by decide) vc n XS rfl (OW.out.alloc _) ⟨w3.heap.size, 0, none⟩ 1 1 [.string X] rfl rfl Cod.one_news (by intro u hu; simp at hu; subst hu; rfl) (by unfold maxLen; omega) (by omega) (Nat.zero_le _) ?_)
  intro v' w4 hown' hgrow _ hat
  obtain ⟨ao2, co2, rfl⟩ := owns_form hown'
  rw [← HXS.out] at hown'
  have hown2 := hown'
  rw [HNN.out] at hown2
  have HM4 : Hid (Mem B w0 (w4.setCell ⟨Q, 4, none⟩ (.slice ao2 (n + 1) co2)) (paint C3 5 w3.heap.size) Q (.slice (some ⟨ga, 0, none⟩) LP ca) (.slice (some ⟨gb, 0, none⟩) LQ cb) (.slice ao2 (n + 1) co2) ps qs (on ++ [X]) kl kr ml mr P R P' R' S1 s' l1 l') := by
    have h := HM3.out.onto (x := X) hown2 hgrow (by rw [← HNN.out]; simpa using hat)
    rw [← HNN.out] at h
    exact h
  have R4 := HM3.out.wm.row.of_block (grown_block hgrow HM3.out.wm.row.lt HM3.out.wm.cq)
  have c4' : w4.cell? ⟨Q, 4, none⟩ = some vc := R4.cell (by decide)
  have f4' := R4.frozen 4
  clear hown' hown2 hgrow hat R4 c4 OW HM3
  go_wp2
  go_ret
  exact ⟨by simp, _, _, on ++ [X], S1, l1, HM4.out, HT'.out, HO'.out, by simp⟩

end
end Sn
end Go.Proofs.Ytkgnmcekeeannaa
