import Derived.Test.YtkgnmcekeeannabW47
import Derived.Test.YtkgnmcekeeannabW42
import Derived.Test.YtkgnmcekeeannabW23
/-
  The law Travels.
-/
namespace Go.Proofs.Ytkgnmcekeeannab
open Go.RowKit Go.Deep
namespace Sn
open Bs
open Ms (txt text M It Tells)
set_option linter.unusedVariables false

structure KOp where
  k : Int
  a : Int
  b : Int
  c : Int
  s : ByteArray
def KAt (w : World) (ao : Option Addr) (n : Nat) (ops : Nat → KOp) : Prop :=
  n = 0 ∨ ∃ b off, ao = some ⟨b, off, none⟩ ∧ b < w.heap.size ∧ ∀ i, i < n → w.cell? ⟨b, off + i * 5, none⟩ = some (.int .i64 (ops i).k) ∧ w.cell? ⟨b, off + i * 5 + 1, none⟩ = some (.int .i64 (ops i).a) ∧ w.cell? ⟨b, off + i * 5 + 2, none⟩ = some (.int .i64 (ops i).b) ∧ w.cell? ⟨b, off + i * 5 + 3, none⟩ = some (.int .i64 (ops i).c) ∧ w.cell? ⟨b, off + i * 5 + 4, none⟩ = some (.string (ops i).s)
def KIn (o : KOp) : Prop := (-9223372036854775808 ≤ o.a ∧ o.a ≤ 9223372036854775807) ∧ (-9223372036854775808 ≤ o.b ∧ o.b ≤ 9223372036854775807) ∧ (-9223372036854775808 ≤ o.c ∧ o.c ≤ 9223372036854775807) ∧ o.s.size ≤ maxLen
theorem fr_below {B : Nat} {w0 w w' : World} (t : Touch w0 w' (fun x => ¬ x < B)) (hb : Below w.heap.size w w0) (hB : w.heap.size ≤ B) : Below w.heap.size w w' :=
  ⟨t.os.trans hb.os, t.tape.trans hb.tape, t.output.trans hb.output, Nat.le_trans hb.size t.size, fun b h => (t.block b (Nat.lt_of_lt_of_le h hb.size) (fun q => q (by omega))).trans (hb.block b h)⟩
theorem TJ.below {B : Nat} {w0 w w' : World} {Q P R c : Nat} {s : St} {r : Rt} {on bk : List ByteArray} (h : TJ (fun x => x < B) w0 w' Q P R s r on bk c) (hb : Below w.heap.size w w0) (hB : w.heap.size ≤ B) : Below w.heap.size w w' := by
  obtain ⟨C, S, v2, v4, v5, l, m, _⟩ := h
  exact fr_below m.bel hb hB
theorem TE.below {nn : Nm} {B : Nat} {w0 w w' : World} {Q P R c : Nat} (h : TE nn (fun x => x < B) w0 w' Q P R c) (hb : Below w.heap.size w w0) (hB : w.heap.size ≤ B) : Below w.heap.size w w' := by
  obtain ⟨s, r, on, bk, h, _⟩ := h
  exact h.below hb hB
set_option maxRecDepth 100000 in
set_option maxHeartbeats 4000000 in
theorem travels_said (a b c : Int) (ao : Option Addr) (k cap : Nat) (ops : Nat → KOp) (w : World) (hk : k ≤ 4398046511104) (hops : KAt w ao k ops) (hin : ∀ i, i < k → KIn (ops i)) :
    Calls Try.prog 4 #[.agg #[.int .i64 a, .int .i64 b, .int .i64 c], .slice ao k cap] w fun e w' => e = .returned (.bool true) ∧ Below w.heap.size w w' := by
  have HBG := fun W => tripBegun a b c W
  have HOP : Hid (KAt w ao k ops) := hops
  have HIN : Hid (∀ i, i < k → KIn (ops i)) := hin
  have B0 : Below w.heap.size w (w.alloc (.cells #[.int .i64 a, .int .i64 b, .int .i64 c] 33)) := (Below.refl _ _).alloc (Nat.le_refl _) _
  have R0 : (w.alloc (.cells #[.int .i64 a, .int .i64 b, .int .i64 c] 33)).rowIs w.heap.size 33 3 (fun j => ([.int .i64 a, .int .i64 b, .int .i64 c] : List Value).getD j undef) := World.rowIs_alloc w #[.int .i64 a, .int .i64 b, .int .i64 c] 33 _ (fun i hi => by
    match i, hi with
    | 0, _ => rfl
    | 1, _ => rfl
    | 2, _ => rfl)
  obtain ⟨W, hW⟩ : ∃ W, W = w.alloc (.cells #[.int .i64 a, .int .i64 b, .int .i64 c] 33) := ⟨_, rfl⟩
  obtain ⟨N, hN⟩ : ∃ N, N = w.heap.size := ⟨_, rfl⟩
  rw [← hW] at B0 R0
  rw [← hN] at R0
  have HB0 : Hid (Below w.heap.size w W) := B0
  have hNW : N < W.heap.size := R0.lt
  have HCE : Hid (∀ W', Below W.heap.size W W' → W'.cell? ⟨N, 0, none⟩ = some (.int .i64 a) ∧ W'.cell? ⟨N, 1, none⟩ = some (.int .i64 b) ∧ W'.cell? ⟨N, 2, none⟩ = some (.int .i64 c)) := fun W' hb => by
    have q := R0.of_block (hb.block N hNW)
    exact ⟨q.cell (i := 0) (by decide), q.cell (i := 1) (by decide), q.cell (i := 2) (by decide)⟩
  clear B0 R0 hops hin
  go_enter Try.func4, Try.ntmps4
  go_wp2_with fail
  simp only [← hW, ← hN]
  clear hN hW
  refine (HBG W).mono ?_
  rintro e w1 ho
  clear HBG
  rcases ho with ⟨_, rfl, hb1⟩ | ⟨n, Q, P, R, hn, rfl, rfl, rfl, rfl, B, w0, hbw, hB, hJ⟩
  · have HB1 : Hid (Below w.heap.size w w1) := HB0.out.trans (hb1.mono HB0.out.size)
    clear hb1
    go_wp2
    go_ret
    exact ⟨rfl, HB1.out⟩
  · have HT0 : Hid (TE n (fun x => x < B) w0 w1 Q P R 0) := hJ.te (by simp) (by simp) rfl
    have HNM : Hid (n.ok) := hn
    have HBW : Hid (Below W.heap.size W w0 ∧ W.heap.size ≤ B) := ⟨hbw, hB⟩
    clear hJ hbw hB
    go_wp2_with fail
    go_loopw [7] (fun y wr => ∃ j : Nat, j ≤ k ∧ y = .int .i64 j ∧ TE n (fun x => x < B) w0 wr Q P R j) (fun y _ => k - (intOf y).toNat)
    case atStart => exact ⟨0, Nat.zero_le _, rfl, HT0.out⟩
    case round =>
      clear HT0
      obtain ⟨j, hj, rfl, hG⟩ := hrel
      have HG : Hid (TE n (fun x => x < B) w0 wr Q P R j) := hG
      have HBR : Hid (Below W.heap.size W wr) := hG.below HBW.out.1 HBW.out.2
      clear hG
      by_cases hlt : j < k
      · rcases HOP.out with h0 | ⟨b, off, rfl, hbl, hcs⟩
        · omega
        · obtain ⟨i0, i1, i2, i3, i4⟩ := hcs j hlt
          have HBw : Below w.heap.size w wr := HB0.out.trans (HBR.out.mono HB0.out.size)
          have y0 : wr.cell? ⟨b, off + j * 5, none⟩ = some (.int .i64 (ops j).k) := (HBw.cell (p := ⟨b, off + j * 5, none⟩) hbl).trans i0
          have y1 : wr.cell? ⟨b, off + j * 5 + 1, none⟩ = some (.int .i64 (ops j).a) := (HBw.cell (p := ⟨b, off + j * 5 + 1, none⟩) hbl).trans i1
          have y2 : wr.cell? ⟨b, off + j * 5 + 2, none⟩ = some (.int .i64 (ops j).b) := (HBw.cell (p := ⟨b, off + j * 5 + 2, none⟩) hbl).trans i2
          have y3 : wr.cell? ⟨b, off + j * 5 + 3, none⟩ = some (.int .i64 (ops j).c) := (HBw.cell (p := ⟨b, off + j * 5 + 3, none⟩) hbl).trans i3
          have y4 : wr.cell? ⟨b, off + j * 5 + 4, none⟩ = some (.string (ops j).s) := (HBw.cell (p := ⟨b, off + j * 5 + 4, none⟩) hbl).trans i4
          obtain ⟨⟨q1, q2⟩, ⟨q3, q4⟩, ⟨q5, q6⟩, q7⟩ := HIN.out j hlt
          have HC := tripStep (ops j).k (ops j).a (ops j).b (ops j).c (ops j).s q1 q2 q3 q4 q5 q6 q7 (by omega) HG.out
          clear hcs i0 i1 i2 i3 i4 q1 q2 q3 q4 q5 q6 q7 HBw
          generalize (ops j).a = OA at *
          generalize (ops j).b = OB at *
          generalize (ops j).c = OC at *
          generalize (ops j).s = OS at *
          generalize (ops j).k = K at *
          clear HG
          go_wp2_with fail
          refine HC.mono ?_
          rintro e w2 ⟨rfl, hg2⟩
          have HG2 : Hid (TE n (fun x => x < B) w0 w2 Q P R (j + 1)) := hg2
          clear HC hg2 y0 y1 y2 y3 y4
          go_wp2
          go_roundw
          case rel => exact ⟨j + 1, by omega, by go_num, HG2.out⟩
          case measure => simp [intOf]; omega
      · obtain rfl : j = k := by omega
        clear hlt hj
        obtain ⟨s, r, on, bk, hJ, hon, hbk, hsn⟩ := HG.out
        have HBL := tripBlocks hJ
        have HJ : Hid (TJ (fun x => x < B) w0 wr Q P R s r on bk j) := hJ
        have HSN : Hid (s.n = n) := hsn
        rw [hsn] at HBL
        obtain ⟨C, S, v2, v4, v5, l, hM, hT, hI⟩ := hJ
        have htl := total_le HNM.out s.objs hI.sok.base.sz
        have hl8 := hI.sok.base.len
        have HTI : Hid (TI s r on bk j) := hI
        obtain ⟨x0, x1, x2⟩ := HCE.out wr HBR.out
        obtain ⟨Tb, hTb⟩ : ∃ Tb, Tb = totalB n s.objs := ⟨_, rfl⟩
        obtain ⟨Ts, hTs⟩ : ∃ Ts, Ts = total n s.objs := ⟨_, rfl⟩
        have HTb : Hid (Tb = totalB n s.objs) := hTb
        have HTs : Hid (Ts = total n s.objs) := hTs
        rw [← hTb, ← hTs] at HBL htl
        obtain ⟨n1, n2, n3, n4, n5⟩ := HNM.out
        obtain ⟨P1, hP1⟩ : ∃ P1, P1 = Tb * n.block := ⟨_, rfl⟩
        have HP1 : Hid (P1 = Tb * n.block) := hP1
        have p1 : (Tb : Int) * (n.block : Int) = (P1 : Int) := by rw [hP1]; simp
        have p1b : P1 ≤ 2048 * 8 := by rw [hP1]; exact Nat.mul_le_mul (by omega) n4
        obtain ⟨P2, hP2⟩ : ∃ P2, P2 = Tb * (n.block + n.spare) := ⟨_, rfl⟩
        have HP2 : Hid (P2 = Tb * (n.block + n.spare)) := hP2
        have p2 : (Tb : Int) * ((n.block : Int) + (n.spare : Int)) = (P2 : Int) := by rw [hP2]; simp
        have p2b : P2 ≤ 2048 * 16 := by rw [hP2]; exact Nat.mul_le_mul (by omega) (by omega)
        clear hM hT hI hTb hTs hsn HG hP1 hP2
        go_wp2_with fail
        refine HBL.mono ?_
        rintro e w2 ⟨rfl, hb2⟩
        have hB2 : Below W.heap.size W w2 := HBR.out.trans (hb2.mono HBR.out.size)
        have HJ2 : Hid (TJ (fun x => x < B) w0 w2 Q P R s r on bk j) := HJ.out.above hb2
        have HB2 : Hid (Below W.heap.size W w2) := hB2
        clear HBL hb2 HJ x0 x1 x2 HBR
        obtain ⟨x0, x1, x2⟩ := HCE.out w2 hB2
        obtain ⟨v1, hv1⟩ : ∃ v1, v1 = w2.drew := ⟨_, rfl⟩
        have HJ3 : Hid (TJ (fun x => x < B) w0 v1 Q P R s r on bk j) := by rw [hv1]; exact HJ2.out.above (Below.refl _ _).drew
        obtain ⟨C3, S3, u2, u4, u5, l3, hM3, _, _⟩ := HJ3.out
        obtain ⟨_, _, z2, _, _, _⟩ := hM3.cells
        have O2 := hM3.wm.own 2 (.inl rfl)
        have et : tV P R u2 r.taken u4 u5 2 = u2 := rfl
        have e2 : txs s.objs on bk 2 = s.objs := rfl
        rw [et, e2] at O2
        obtain ⟨ax, cx, hv⟩ := owns_form O2
        rw [hv] at z2
        obtain ⟨y0, y1, y2⟩ : v1.cell? ⟨N, 0, none⟩ = some (.int .i64 n.size) ∧ v1.cell? ⟨N, 1, none⟩ = some (.int .i64 n.block) ∧ v1.cell? ⟨N, 2, none⟩ = some (.int .i64 n.spare) := HCE.out v1 (by rw [hv1]; exact hB2.drew)
        obtain ⟨L, hL⟩ : ∃ L, L = s.objs.length := ⟨_, rfl⟩
        have HL : Hid (L = s.objs.length) := hL
        rw [← hL] at z2 hl8 htl
        clear hB2 hM3 O2 et e2 hv hL
        go_wp2_with fail
        (refine wp_region_still_tail 14 (by kernel_rfl) (by kernel_rfl) ?_; change wpStill _ _ (World.drew _) (fun a' => wpList _ _ _ _ a' (World.drew _)) _ _; simp only [← hv1]; clear hv1; simp only [List.take_succ_cons, List.take_zero, List.drop_succ_cons, List.drop_zero]; (repeat still_step); refine wpStill_nil ?_)
        clear x0 x1 x2 y0 y1 y2 z2 HJ2
        go_wp2_with fail
        have w1e : IntKind.i64.wrap ((n.block : Int) + (n.spare : Int)) = (n.block : Int) + (n.spare : Int) := IntWalk.i64_in _ ⟨by omega, by omega⟩
        have w2e : IntKind.i64.wrap (P2 : Int) = (P2 : Int) := IntWalk.i64_in _ ⟨by omega, by omega⟩
        have w3e : IntKind.i64.wrap ((P2 : Int) + (L : Int)) = (P2 : Int) + (L : Int) := IntWalk.i64_in _ ⟨by omega, by omega⟩
        have w4e : IntKind.i64.wrap ((P2 : Int) + (L : Int) + 1) = ((P2 + L + 1 : Nat) : Int) := by rw [IntWalk.i64_in _ ⟨by omega, by omega⟩]; omega
        have w5e : (Ts : Int) + (P1 : Int) = ((Ts + P1 : Nat) : Int) := by omega
        rw [w1e, p2, w2e, w3e, w4e, w5e]
        clear w1e w2e w3e w4e w5e p1 p2
        obtain ⟨RD, hRD⟩ : ∃ RD, RD = P2 + L + 1 := ⟨_, rfl⟩
        obtain ⟨MO, hMO⟩ : ∃ MO, MO = Ts + P1 := ⟨_, rfl⟩
        have HRD : Hid (RD = P2 + L + 1) := hRD
        have HMO : Hid (MO = Ts + P1) := hMO
        have hRDb : RD ≤ 40000 := by omega
        have hMOb : MO ≤ 40000 := by omega
        rw [← hRD, ← hMO]
        obtain ⟨T0, hT0⟩ : ∃ T0, T0 = turnOf s := ⟨_, rfl⟩
        have HSTR : Hid (Str s r T0 0) := by rw [hT0]; exact Str.start HTI.out
        have HOS : Hid (∃ os, os = s.objs) := ⟨_, rfl⟩
        obtain ⟨os, hos⟩ := HOS.out
        have HOS2 : Hid (os = s.objs) := hos
        have HLO : Hid (L = os.length) := by rw [hos]; exact HL.out
        have HTbo : Hid (Tb = totalB n os) := by rw [hos]; exact HTb.out
        have HTso : Hid (Ts = total n os) := by rw [hos]; exact HTs.out
        clear hRD hMO hT0 HOS hos HL HTb HTs
        go_loopw [12] (fun y wr => ∃ (i : Nat) (s : St) (r : Rt) (cc : Nat), i ≤ P2 + 1 ∧ y = .int .i64 i ∧ TJ (fun x => x < B) w0 wr Q P R s r on bk cc ∧ Str s r T0 i ∧ s.n = n ∧ s.objs = os ∧ cc ≤ 4398046511104 + i * 262144) (fun y _ => P2 + 2 - (intOf y).toNat)
        case atStart => exact ⟨0, s, r, j, by omega, rfl, HJ3.out, HSTR.out, HSN.out, HOS2.out.symm, by omega⟩
        case round =>
          clear HJ3 HSTR HOS2 HSN HTI
          obtain ⟨i, s, r, cc, hi, rfl, hJ, hStr, hsn, hso, hcc⟩ := hrel
          have HJ : Hid (TJ (fun x => x < B) w0 wr Q P R s r on bk cc) := hJ
          have HST : Hid (Str s r T0 i) := hStr
          have HSN : Hid (s.n = n) := hsn
          have HSO : Hid (s.objs = os) := hso
          have hir : i ≤ RD := by have := HRD.out; omega
          obtain ⟨C, S, v2, v4, v5, l, hM, hT, hI⟩ := hJ
          have hlid := hStr.lid (by rw [hsn]; exact HNM.out) hI.dl
          have hml := run_most hI
          rw [hsn, hso, ← HTbo.out] at hlid hml
          rw [← HTso.out, ← HP1.out, ← HMO.out] at hml
          rw [← HP2.out] at hlid
          have HRUN := tripRun (s := s) (r := r) (on := on) (bk := bk) (c := cc) MO hml (by omega) (by omega) HJ.out
          have hran := hStr.ran
          have HRAN : Hid (Ran s (sendN (s.left + 1) s r).1 (sendN (s.left + 1) s r).2 T0 r.taken) := hran
          have HNX : Hid ((sendN (s.left + 1) s r).2.items ≠ [] → Str ((sendN (s.left + 1) s r).1.asked ((sendN (s.left + 1) s r).2.items.take 8)) (sendN (s.left + 1) s r).2 T0 (i + 1)) := hStr.next
          have HSM : Hid ((sendN (s.left + 1) s r).1.n = n ∧ (sendN (s.left + 1) s r).1.objs = os) := by
            have q := sendN_same (s.left + 1) s r
            exact ⟨q.1.trans hsn, q.2.trans hso⟩
          generalize (sendN (s.left + 1) s r).1 = s3 at *
          generalize (sendN (s.left + 1) s r).2 = r3 at *
          generalize s.left = LF at *
          clear hM hT hI hStr hsn hso hran HJ
          go_wp2_with fail
          refine HRUN.mono ?_
          rintro e w3 ⟨rfl, hJ3⟩
          have HJ3 : Hid (TJ (fun x => x < B) w0 w3 Q P R s3 r3 on bk (cc + 2 * (LF + 1))) := hJ3
          obtain ⟨C, S, v2, v4, v5, l, hM, hT, hI⟩ := hJ3
          obtain ⟨x0, x1, _, _, _, _⟩ := hM.cells
          have HRQ := rRequestR r3 R (fun b => C b = 2) w3 (hI.rok.ok (by omega)) hI.tw hM.rl
          have HTI : Hid (TI s3 r3 on bk (cc + 2 * (LF + 1))) := hI
          have HRE : Hid (r3.request = ⟨#[]⟩ ↔ r3.items = []) := request_empty
          obtain ⟨TQ, hTQ⟩ : ∃ TQ, TQ = r3.request := ⟨_, rfl⟩
          have HTQ : Hid (TQ = r3.request) := hTQ
          rw [← hTQ] at HRQ
          clear HRUN hM hT hI hTQ
          go_wp2_with fail
          refine HRQ.mono ?_
          rintro e w4 ⟨rfl, hb4⟩
          have HJ4 : Hid (TJ (fun x => x < B) w0 w4 Q P R s3 r3 on bk (cc + 2 * (LF + 1))) := HJ3.out.above hb4
          clear HRQ hb4 HJ3 x0 x1
          by_cases hit : r3.items = []
          · have hTe : TQ.toList.isEmpty = true := by rw [Ms.size_isEmpty, HTQ.out, HRE.out.2 hit]; rfl
            have HIT : Hid (r3.items = []) := hit
            clear hit
            obtain ⟨C, S, v2, v4, v5, l, hM, hT, hI⟩ := HJ4.out
            obtain ⟨x0, x1, _, _, _, _⟩ := hM.cells
            have HRQ := rRequestR r3 R (fun b => C b = 2) w4 (hI.rok.ok (by omega)) hI.tw hM.rl
            rw [← HTQ.out] at HRQ
            clear hM hT hI
            go_wp2_with fail
            refine HRQ.mono ?_
            rintro e w5 ⟨rfl, hb5⟩
            have HJ5 : Hid (TJ (fun x => x < B) w0 w5 Q P R s3 r3 on bk (cc + 2 * (LF + 1))) := HJ4.out.above hb5
            clear HRQ hb5 HJ4 x0 x1
            have HKN : Hid (r3.known = L) := by unfold Hid; rw [HRAN.out.known, HSO.out]; exact HLO.out.symm
            have HTKL : Hid (r3.taken ≤ L) := by have h := HTI.out.rok.tk; rw [HKN.out] at h; exact h
            have hCC : cc + 2 * (LF + 1) ≤ 4611686018427387904 := by omega
            clear HTI HRAN HNX HST HRE HTQ hml hlid hi hcc
            generalize cc + 2 * (LF + 1) = CC at *
            have HL3 : Hid (L = s3.objs.length) := by unfold Hid; rw [HSM.out.2]; exact HLO.out
            go_wp2_with fail
            go_loopw [17] (fun y wr => ∃ (i : Nat) (r : Rt), i ≤ L ∧ y = .int .i64 i ∧ TJ (fun x => x < B) w0 wr Q P R s3 r on bk CC ∧ r.items = [] ∧ r.known = L ∧ i ≤ r.taken ∧ r.taken ≤ L) (fun y _ => L - (intOf y).toNat)
            case atStart => exact ⟨0, r3, Nat.zero_le _, rfl, HJ5.out, HIT.out, HKN.out, Nat.zero_le _, HTKL.out⟩
            case round =>
              clear HJ5 HIT HKN HTKL
              obtain ⟨i2, r, hi2, rfl, hJ, hit, hkn, hti, htk⟩ := hrel
              have HJ : Hid (TJ (fun x => x < B) w0 wr Q P R s3 r on bk CC) := hJ
              have HIT : Hid (r.items = []) := hit
              have HKN : Hid (r.known = L) := hkn
              obtain ⟨C, S, v2, v4, v5, l, hM, hT, hI⟩ := hJ
              obtain ⟨_, x1, x2, x3, _, _⟩ := hM.cells
              have O2 := hM.wm.own 2 (.inl rfl)
              have et : tV P R v2 r.taken v4 v5 2 = v2 := rfl
              have e2 : txs s3.objs on bk 2 = s3.objs := rfl
              rw [et, e2] at O2
              obtain ⟨ax, cx, hv⟩ := owns_form O2
              rw [hv, ← HL3.out] at x2
              clear O2 et e2 hv
              by_cases hlt : i2 < L
              · have li : (i2 : Int) < (L : Int) := by omega
                by_cases hte : r.taken = L
                · clear hM hT hI hit hkn
                  rw [hte] at x3
                  go_wp2_with fail
                  go_quiet (fail)
                  have HJ' : Hid (TJ (fun x => x < B) w0 (wr.drewN nq) Q P R s3 r on bk CC) := HJ.out.above (below_drewN (Below.refl _ _) nq)
                  clear HJ x1 x2 x3
                  generalize wr.drewN nq = w6 at *
                  go_wp2
                  go_roundw
                  case rel => exact ⟨i2 + 1, r, by omega, by go_num, HJ'.out, HIT.out, HKN.out, by omega, htk⟩
                  case measure => simp [intOf]; omega
                · have htn : take_now hit (by rw [hkn]; omega) = take_now hit (by rw [hkn]; omega) := rfl
                  have h3 := (hI.hon.take (hI.rok.ok hCC) (take_now hit (by rw [hkn]; omega))).2.2.1
                  have HE3 : Hid (r.take.1 = { r with taken := r.taken + 1 }) := h3
                  clear hM hT hI hit hkn h3 htn
                  obtain ⟨v, hv⟩ : ∃ v, v = wr.drew := ⟨_, rfl⟩
                  have HTK := tripTakes hCC (HJ.out.above (Below.refl _ _).drew)
                  rw [← hv] at HTK
                  have tl : ((r.taken : Int) = (L : Int)) = False := eq_false (by omega)
                  have HJv : Hid (TJ (fun x => x < B) w0 v Q P R s3 r on bk CC) := by rw [hv]; exact HJ.out.above (Below.refl _ _).drew
                  obtain ⟨y1, y2, y3⟩ : v.cell? ⟨Q, 1, none⟩ = wr.cell? ⟨Q, 1, none⟩ ∧ v.cell? ⟨Q, 2, none⟩ = wr.cell? ⟨Q, 2, none⟩ ∧ v.cell? ⟨Q, 3, none⟩ = wr.cell? ⟨Q, 3, none⟩ := by rw [hv]; exact ⟨rfl, rfl, rfl⟩
                  rw [x1] at y1
                  rw [x2] at y2
                  rw [x3] at y3
                  go_wp2_with fail
                  (refine wp_region_still_tail 12 (by kernel_rfl) (by kernel_rfl) ?_; change wpStill _ _ (World.drew _) (fun a' => wpList _ _ _ _ a' (World.drew _)) _ _; simp only [← hv]; clear hv; simp only [List.take_succ_cons, List.take_zero, List.drop_succ_cons, List.drop_zero]; (repeat still_step); refine wpStill_nil ?_)
                  go_wp2_with fail
                  refine HTK.mono ?_
                  rintro e w7 ⟨rfl, hJ7⟩
                  have HJ7 : Hid (TJ (fun x => x < B) w0 w7 Q P R s3 r.take.1 on bk CC) := hJ7
                  clear HTK hJ7 HJ HJv x1 x2 x3 y1 y2 y3
                  go_wp2
                  go_roundw
                  case rel =>
                    have q := HJ7.out
                    rw [HE3.out] at q
                    exact ⟨i2 + 1, _, by omega, by go_num, q, by rw [lenIn_taken]; exact HIT.out, HKN.out, Nat.succ_le_succ hti, by show r.taken + 1 ≤ L; omega⟩
                  case measure => simp [intOf]; omega
              · obtain rfl : i2 = L := by omega
                have htL : r.taken = i2 := by omega
                rw [htL] at x3
                have HKC := rKnownR r R (fun b => C b = 2) wr hM.rl
                rw [hkn] at HKC
                clear hM hT hI hit hkn
                go_wp2_with fail
                refine HKC.mono ?_
                rintro e w6 ⟨rfl, rfl⟩
                clear HKC x1
                go_wp2_with fail
                go_quiet (fail)
                have HBF : Hid (Below w.heap.size w (w6.drewN nq)) := (HJ.out.above (below_drewN (Below.refl _ _) nq)).below (HB0.out.trans (HBW.out.1.mono HB0.out.size)) (Nat.le_trans HB0.out.size HBW.out.2)
                clear HJ x2 x3
                generalize w6.drewN nq = w8 at *
                go_wp2
                go_ret
                exact ⟨rfl, HBF.out⟩
          · have hTe : TQ.toList.isEmpty = false := by
              have q : ¬ TQ = ⟨#[]⟩ := fun e => hit (HRE.out.1 (by rw [← HTQ.out]; exact e))
              rw [Ms.size_isEmpty]
              refine decide_eq_false (fun e => q ?_)
              apply ByteArray.ext
              exact Array.eq_empty_of_size_eq_zero e
            have HS4 : Hid (Str (s3.asked (r3.items.take 8)) r3 T0 (i + 1)) := HNX.out hit
            obtain ⟨mq, q1, q2, q3, q4⟩ : ∃ m, Ms.ok m ∧ m.kind = 2 ∧ m.items = r3.items.take 8 ∧ TQ = txt (text m) := by
              refine ⟨reqM (r3.items.take 8), ?_, rfl, rfl, ?_⟩
              · refine .inr (.inl ⟨rfl, ⟨rfl, rfl, rfl, rfl, rfl⟩, rfl, ?_, ?_, fun t ht => items_ok r3 (HTI.out.rok.ok (by omega)) t (List.mem_of_mem_take ht)⟩)
                · show 1 ≤ (r3.items.take 8).length
                  have := List.length_pos_iff.2 hit
                  rw [List.length_take]; omega
                · show (r3.items.take 8).length ≤ 8
                  rw [List.length_take]; omega
              · rw [HTQ.out]; unfold Rt.request; rw [if_neg hit]
            have hzq : TQ.size ≤ 28 := by rw [q4, Ms.txt_size]; exact (Ms.text_len q1).2
            have HTL : Hid (Tells TQ mq) := by rw [q4]; exact tells_text q1
            have HKD : Hid (mq.kind = 2 ∧ mq.items = r3.items.take 8) := ⟨q2, q3⟩
            obtain ⟨C, S, v2, v4, v5, l, hM, ⟨T, hT⟩, hI⟩ := HJ4.out
            obtain ⟨x0, x1, _, _, _, _⟩ := hM.cells
            have HM : Hid (Tm (fun x => x < B) w0 w4 C Q S v2 r3.taken v4 v5 s3.objs on bk P R l r3) := hM
            have HOK2 := hT.ok2 hI.sok
            obtain ⟨la, lc, LD, hLI⟩ := hM.sl
            have HH := rHear l TQ P (fun b => C b = 1) la lc LD w4 HOK2.base HOK2.ow8 (by omega) hLI
            have hits : ∀ t ∈ mq.items, Ms.itOK t := by
              rcases q1 with h | h | h
              · rw [q2] at h; exact absurd h.1 (by decide)
              · exact h.2.2.2.2.2
              · rw [q2] at h; exact absurd h.1 (by decide)
            have HRL : Hid (∃ T, Rel (s3.asked mq.items) (l.anss mq.items) T) := ⟨T, hT.dues hI.sok mq.items hits⟩
            have HTA : Hid (TI (s3.asked mq.items) r3 on bk (cc + 2 * (LF + 1) + 1)) := hI.asked mq.items
            clear hM hT hI hits q1 q2 q3 q4 HOK2 hLI hit HJ4 HNX
            go_wp2_with fail
            refine HH.mono ?_
            rintro e w5 ⟨l2, ho, hl2, t2⟩
            rcases ho with ⟨m', h5, h6, rfl, rfl⟩ | ⟨h5, _, _⟩
            · have em : m' = mq := by rw [← Ms.tells_lan h5, Ms.tells_lan HTL.out]
              subst em
              have HF : Hid (TJ (fun x => x < B) w0 w5 Q P R (s3.asked m'.items) r3 on bk (cc + 2 * (LF + 1) + 1)) := ⟨_, _, _, _, _, _, HM.out.send t2 (LndAt.mono ⟨la, lc, LD, hl2⟩ (fun b hb _ => .inl hb)), HRL.out, HTA.out⟩
              clear HH hl2 t2 h5 h6 HM x0 x1
              go_wp2
              go_roundw
              case rel =>
                refine ⟨i + 1, s3.asked m'.items, r3, _, by omega, by go_num, HF.out, ?_, HSM.out.1, HSM.out.2, by omega⟩
                rw [HKD.out.2]; exact HS4.out
              case measure => simp [intOf]; omega
            · exact absurd HKD.out.1 (h5 mq HTL.out)
end Sn
end Go.Proofs.Ytkgnmcekeeannab
/-
  Serves: what has come to a receiver, counted block by block: in plain words.
-/
namespace Go.Proofs.Ytkgnmcekeeannab
namespace Sn
open Ms (txt text M It)
set_option linter.unusedVariables false

/-- how many symbols of a block have come, whether its length is known or not -/
def cnt (r : Rt) (objs : List ByteArray) (o b : Nat) : Nat := (comeIn o b (r.n.many (objs.getD o ⟨#[]⟩).size b) [] r.heard).length
/-- U: how many of a block were sent; L: how many of these were lost -/
structure Acc (r : Rt) (objs : List ByteArray) (L U : Nat → Nat → Nat) : Prop where
  cn : ∀ o b, b < 256 → cnt r objs o b = min (r.n.many (objs.getD o ⟨#[]⟩).size b) (U o b - L o b)
  nums : ∀ m ∈ r.heard, ∀ o b : Nat, m.obj = o → m.blk = b → m.num < U o b
  le : ∀ o b, b < 256 → L o b ≤ U o b
theorem hear_gotM {r : Rt} {m : M} (hk : m.kind = 1) (h0 : (r.hear m).2 = 0) : (r.hear m).1 = r.got m := by
  unfold Rt.hear at h0 ⊢
  rw [if_neg (by rw [hk]; decide), if_neg (by rw [hk]; decide)] at h0 ⊢
  simp only [] at h0 ⊢
  split at h0
  · exact absurd h0 (by show ¬ ((6 : Int) = 0); decide)
  · rename_i hg
    rw [if_neg hg]
    split at h0
    · exact absurd h0 (by show ¬ ((9 : Int) = 0); decide)
    · rename_i hg2
      rw [if_neg hg2]
      rfl
theorem hear_fin (r : Rt) (k : Nat) : r.hear (endM k) = ({ r with known := max r.known k }, 0) := by
  unfold Rt.hear endM
  simp
/-- nothing has come of an object of unknown length -/
theorem cnt_zero {r : Rt} {objs : List ByteArray} (hr : ROk r) {o : Nat} (h : r.len o = 0) (b : Nat) : cnt r objs o b = 0 := by
  unfold cnt
  have hn := lenIn_none _ _ (heard_pos hr) (len_zero hr h)
  rw [comeIn_other _ _ _ _ _ (fun x hx hxx => hn x hx hxx.1)]
  rfl
theorem cnt_come {r : Rt} {objs : List ByteArray} (h : HonR r objs) {o : Nat} (h0 : r.len o ≠ 0) (b : Nat) : (r.come o b).length = cnt r objs o b := by
  unfold cnt Rt.come
  rw [(h.hon.len h0).2]
section
variable {r : Rt} {objs : List ByteArray} {L U : Nat → Nat → Nat} {o b : Nat}
theorem Acc.new (n : Nm) (objs : List ByteArray) : Acc (Rt.fresh n) objs (fun _ _ => 0) (fun _ _ => 0) :=
  ⟨fun o b _ => by simp [cnt, Rt.fresh, comeIn], fun m hm => by simp [Rt.fresh] at hm, fun o b _ => Nat.le_refl _⟩
theorem Acc.fin (h : Acc r objs L U) (k : Nat) : Acc (r.hear (endM k)).1 objs L U := by
  rw [hear_fin]
  exact ⟨h.cn, h.nums, h.le⟩
theorem Acc.lose {L' : Nat → Nat → Nat} (h : Acc r objs L U) (e1 : L' o b = L o b + 1) (e2 : ∀ o' b', b' < 256 → ¬ (o' = o ∧ b' = b) → L' o' b' = L o' b') : Acc r objs L' (upd U o b (U o b + 1)) := by
  refine ⟨fun o' b' hb => ?_, fun m hm o' b' h1 h2 => ?_, fun o' b' hb => ?_⟩
  · rw [h.cn o' b' hb]
    by_cases e : o' = o ∧ b' = b
    · obtain ⟨rfl, rfl⟩ := e
      rw [upd_at, e1]
      congr 1
      omega
    · rw [e2 o' b' hb e]
      unfold upd
      rw [if_neg e]
  · have := h.nums m hm o' b' h1 h2
    unfold upd
    split
    · rename_i e
      obtain ⟨rfl, rfl⟩ := e
      omega
    · exact this
  · have := h.le o' b' hb
    by_cases e : o' = o ∧ b' = b
    · obtain ⟨rfl, rfl⟩ := e
      rw [upd_at, e1]; omega
    · rw [e2 o' b' hb e]
      unfold upd
      rw [if_neg e]
      exact this
theorem Acc.hear (h : Acc r objs L U) {m : M} (hk : m.kind = 1) (h0 : (r.hear m).2 = 0) (eo : m.obj = o) (eb : m.blk = b) (en : m.num = U o b) : Acc (r.hear m).1 objs L (upd U o b (U o b + 1)) := by
  rw [hear_gotM hk h0]
  refine ⟨fun o' b' hb => ?_, fun x hx o' b' h1 h2 => ?_, fun o' b' hb => ?_⟩
  · have hc := h.cn o' b' hb
    have hle := h.le o' b' hb
    unfold cnt at hc ⊢
    show (comeIn o' b' (r.n.many (objs.getD o' ⟨#[]⟩).size b') [] (r.heard ++ [m])).length = min (r.n.many (objs.getD o' ⟨#[]⟩).size b') _
    rw [comeIn_app]
    by_cases e : o' = o ∧ b' = b
    · obtain ⟨rfl, rfl⟩ := e
      rw [upd_at]
      have hf : fresh1 o' b' (comeIn o' b' (r.n.many (objs.getD o' ⟨#[]⟩).size b') [] r.heard) m = true := by
        simp only [fresh1, Bool.and_eq_true, decide_eq_true_eq, List.all_eq_true]
        refine ⟨⟨eo, eb⟩, fun x hx => ?_⟩
        have hxh : x ∈ r.heard := by
          rcases comeIn_mem _ _ _ _ _ x hx with q | q
          · cases q
          · exact q
        have hxc := (comeIn_come (o' : Int) (b' : Int) (r.n.many (objs.getD o' ⟨#[]⟩).size b') r.heard [] ⟨by simp, by simp⟩).1 x hx
        have := h.nums x hxh o' b' hxc.1 hxc.2
        omega
      by_cases hlt : (comeIn o' b' (r.n.many (objs.getD o' ⟨#[]⟩).size b') [] r.heard).length < r.n.many (objs.getD o' ⟨#[]⟩).size b'
      · rw [if_pos ⟨hlt, hf⟩, List.length_append, List.length_singleton]
        omega
      · rw [if_neg (fun q => hlt q.1)]
        omega
    · have hf : ¬ fresh1 o' b' (comeIn o' b' (r.n.many (objs.getD o' ⟨#[]⟩).size b') [] r.heard) m = true := fun q => by
        simp only [fresh1, Bool.and_eq_true, decide_eq_true_eq] at q
        exact e ⟨by omega, by omega⟩
      rw [if_neg (fun q => hf q.2), hc]
      unfold upd
      rw [if_neg e]
  · have hx' : x ∈ r.heard ∨ x = m := by
      have hx2 : x ∈ r.heard ++ [m] := hx
      rcases List.mem_append.1 hx2 with q | q
      · exact .inl q
      · exact .inr (List.mem_singleton.1 q)
    unfold upd
    rcases hx' with q | q
    · have := h.nums x q o' b' h1 h2
      split
      · rename_i e
        obtain ⟨rfl, rfl⟩ := e
        omega
      · exact this
    · subst q
      rw [if_pos ⟨by omega, by omega⟩]
      omega
  · have := h.le o' b' hb
    unfold upd
    split
    · rename_i e
      obtain ⟨rfl, rfl⟩ := e
      omega
    · exact this
end
end Sn
end Go.Proofs.Ytkgnmcekeeannab
