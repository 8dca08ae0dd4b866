import Derived.Test.YtkgnmcekeeannabW52
/-
  The law Serves.
-/
namespace Go.Proofs.Ytkgnmcekeeannab
open Go.RowKit Go.Deep
namespace Sn
open Bs
open Ms (txt text M It Tells)
set_option linter.unusedVariables false

/-- a list of texts -/
def StrsAt (w : World) (ao : Option Addr) (n : Nat) (xs : Nat → ByteArray) : Prop :=
  n = 0 ∨ ∃ b off, ao = some ⟨b, off, none⟩ ∧ b < w.heap.size ∧ ∀ i, i < n → w.cell? ⟨b, off + i, none⟩ = some (.string (xs i)) ∧ (xs i).size ≤ maxLen
/-- nothing was sent and nothing is owed -/
def Zed (s : St) : Prop := s.sent = 0 ∧ ∀ d ∈ s.debts, d.owes = 0 ∧ d.turn = 0
theorem Zed.enq {s : St} (h : Zed s) (o : ByteArray) : Zed (enq s o).1 := by
  unfold Sn.enq
  split
  · exact h
  · split
    · exact h
    · refine ⟨h.1, fun d hd => ?_⟩
      rcases List.mem_append.1 hd with q | q
      · exact h.2 d q
      · obtain ⟨b, _, rfl⟩ := List.mem_map.1 q
        exact ⟨rfl, rfl⟩
theorem SJ0.below {B : Nat} {w0 w w' : World} {Q P R O c : Nat} {s : St} {r ro : Rt} (h : SJ0 (fun x => x < B) w0 w' Q P R O s r ro c) (hb : Below w.heap.size w w0) (hB : w.heap.size ≤ B) : Below w.heap.size w w' := h.tj.below hb hB
theorem SJ0.ti {B : Nat → Prop} {w0 w : World} {Q P R O c : Nat} {s : St} {r ro : Rt} (h : SJ0 B w0 w Q P R O s r ro c) : TI s r [] [] c ∧ TI s ro [] [] c := by
  obtain ⟨C, S, v2, v4, v5, l, m, ho, hr, h1, h2⟩ := h
  exact ⟨h1, h2⟩
def Ph2 (s : St) (rx ry : Rt) (fx fy : Nat → Nat) : Prop := (∃ U, Sec s rx ry (Lf fx) (Lf fy) U) ∧ rx.known = s.objs.length ∧ ry.known = s.objs.length ∧ (∀ o b, b < 256 → (Lf fx o b ≠ 0 ∨ Lf fy o b ≠ 0) → o < s.objs.length ∧ b < s.n.blocks (objOf s o).size) ∧ (∀ d ∈ s.debts, d.turn = 0)
def Ph1 (s : St) (rx ry : Rt) (fx fy : Nat → Nat) (Ts k : Nat) : Prop := (k ≤ Ts ∧ s.left + k = Ts ∧ ∃ U, Fst s rx ry (Lf fx) (Lf fy) U) ∨ (k = Ts + 1 ∧ Ph2 s rx ry fx fy)
def Out (s : St) (fx fy : Nat → Nat) : Prop := ∀ o b, b < 256 → (Lf fx o b ≠ 0 ∨ Lf fy o b ≠ 0) → o < s.objs.length ∧ b < s.n.blocks (objOf s o).size
structure Rnd (s : St) (rx ry : Rt) (fx fy : Nat → Nat) (Tb i ag : Nat) : Prop where
  sec : ∃ U, Sec s rx ry (Lf fx) (Lf fy) U
  kx : rx.known = s.objs.length
  ky : ry.known = s.objs.length
  out : Out s fx fy
  sum : tsum s = ag
  ix : inc s (Lf fx) ≤ Tb - i
  iy : inc s (Lf fy) ≤ Tb - i
theorem Rnd.start {s : St} {rx ry : Rt} {fx fy : Nat → Nat} {Tb : Nat} (h : Ph2 s rx ry fx fy) (hd : s.debts.length = Tb) : Rnd s rx ry fx fy Tb 0 0 := by
  obtain ⟨h1, h2, h3, h4, h5⟩ := h
  refine ⟨h1, h2, h3, h4, ?_, by rw [← hd]; exact inc_le _ _, by rw [← hd]; exact inc_le _ _⟩
  have key : ∀ l : List Db, (∀ d ∈ l, d.turn = 0) → (l.map Db.turn).sum = 0 := by
    intro l
    induction l with
    | nil => intro _; rfl
    | cons d l ih => intro h; simp only [List.map_cons, List.sum_cons]; rw [h d (by simp), ih (fun x hx => h x (by simp [hx]))]
  exact key _ h5
theorem Rnd.next {s s2 : St} {rx ry : Rt} {fx fy : Nat → Nat} {Tb i ag : Nat} (h : Rnd s rx ry fx fy Tb i ag) (hrx : ROk rx) (hry : ROk ry) (hk : Keys s) (e2 : s2 = (s.asked (rx.items.take 8)).asked (ry.items.take 8)) :
    Rnd (sendN (s2.left + 1) s2 rx).1 (sendN (s2.left + 1) s2 rx).2 (sendN (s2.left + 1) s2 ry).2 fx fy Tb (i + 1) (ag + s2.left) := by
  obtain ⟨U, hs⟩ := h.sec
  obtain ⟨U', p1, p2, p3, p4, p5, p6, p7, p8, p9, p10⟩ := hs.round hrx hry hk h.kx h.ky e2
  have ix := h.ix
  have iy := h.iy
  refine ⟨⟨U', p1⟩, p4, p5, ?_, by rw [p10, h.sum], by omega, by omega⟩
  intro o b hb hne
  have e : objOf (sendN (s2.left + 1) s2 rx).1 o = objOf s o := by unfold objOf; rw [p7]
  rw [p6, p7, e]
  exact h.out o b hb hne
theorem sendN_taken : ∀ (k : Nat) (s : St) (r : Rt), (sendN k s r).2.taken = r.taken
  | 0, s, r => rfl
  | k + 1, s, r => by
    have h := sendN_taken k (nxt s).1 (r.hear (nxtM s)).1
    exact h.trans (hear_n r _).2
theorem SJ.asked {B : Nat → Prop} {w0 w w1 : World} {C : Nat → Nat} {Q : Nat} {S : Nat → Nat} {v2 v4 v5 : Value} {P R O X Y c : Nat} {s : St} {r ro : Rt} {fx fy : Nat → Nat} {l : LS} (hM : Sm B w0 w C Q S v2 v4 v5 P R O X Y s.objs l r ro fx fy) (h1 : TI s r [] [] c) (h2 : TI s ro [] [] c) (items : List It) (h : ∃ l', (∃ T, Rel (s.asked items) l' T) ∧ LndAt w1 P l' (grow (fun b => C b = 1) w w1) ∧ Touch w w1 (fun b => C b = 1)) :
    SJ B w0 w1 Q P R O X Y (s.asked items) r ro fx fy (c + 1) := by
  obtain ⟨l', hT, hl, t⟩ := h
  exact ⟨_, _, _, _, _, _, hM.send t hl, hT, h1.asked items, h2.asked items⟩
set_option maxRecDepth 100000 in
set_option maxHeartbeats 4000000 in
theorem serves_said (a b c : Int) (ha : -9223372036854775808 ≤ a ∧ a ≤ 9223372036854775807) (hb : -9223372036854775808 ≤ b ∧ b ≤ 9223372036854775807) (hc : -9223372036854775808 ≤ c ∧ c ≤ 9223372036854775807)
    (ao : Option Addr) (k cap : Nat) (xs : Nat → ByteArray) (a1 : Option Addr) (n1 cap1 : Nat) (a2 : Option Addr) (n2 cap2 : Nat) (w : World) (hk : k ≤ 8796093022208) (hops : StrsAt w ao k xs) (h1 : IntsAt w a1 n1) (hn1 : n1 ≤ 140737488355328) (h2 : IntsAt w a2 n2) (hn2 : n2 ≤ 140737488355328) :
    Calls Try.prog 5 #[.int .i64 a, .int .i64 b, .int .i64 c, .slice ao k cap, .slice a1 n1 cap1, .slice a2 n2 cap2] w fun e w' => e = .returned (.bool true) ∧ Below w.heap.size w w' := by
  have HOP : Hid (StrsAt w ao k xs) := hops
  have HF1 : Hid (IntsAt w a1 n1) := h1
  have HF2 : Hid (IntsAt w a2 n2) := h2
  obtain ⟨n, hn, HNU⟩ := tripNumbers a b c ha.1 ha.2 hb.1 hb.2 hc.1 hc.2
  clear hops h1 h2 ha hb hc
  have HNM : Hid n.ok := hn
  go_enter Try.func5, Try.ntmps5
  go_wp2_with fail
  refine (HNU _).mono ?_
  rintro e w1 ⟨rfl, hb1⟩
  clear HNU
  have B0 : Below w.heap.size w (w1.alloc (.cells #[.int .i64 n.size, .int .i64 n.block, .int .i64 n.spare] 33)) := hb1.alloc hb1.size _
  have R0 : (w1.alloc (.cells #[.int .i64 n.size, .int .i64 n.block, .int .i64 n.spare] 33)).rowIs w1.heap.size 33 3 (fun j => ([.int .i64 n.size, .int .i64 n.block, .int .i64 n.spare] : List Value).getD j undef) := World.rowIs_alloc w1 #[.int .i64 n.size, .int .i64 n.block, .int .i64 n.spare] 33 _ (fun i hi => by
    match i, hi with
    | 0, _ => rfl
    | 1, _ => rfl
    | 2, _ => rfl)
  obtain ⟨W, hW⟩ : ∃ W, W = w1.alloc (.cells #[.int .i64 n.size, .int .i64 n.block, .int .i64 n.spare] 33) := ⟨_, rfl⟩
  obtain ⟨N, hN⟩ : ∃ N, N = w1.heap.size := ⟨_, rfl⟩
  rw [← hW] at B0 R0
  rw [← hN] at R0
  have HB0 : Hid (Below w.heap.size w W) := B0
  have hNW : N < W.heap.size := R0.lt
  have HCE : Hid (∀ W', Below W.heap.size W W' → W'.cell? ⟨N, 0, none⟩ = some (.int .i64 n.size) ∧ W'.cell? ⟨N, 1, none⟩ = some (.int .i64 n.block) ∧ W'.cell? ⟨N, 2, none⟩ = some (.int .i64 n.spare)) := fun W' hb => by
    have q := R0.of_block (hb.block N hNW)
    exact ⟨q.cell (i := 0) (by decide), q.cell (i := 1) (by decide), q.cell (i := 2) (by decide)⟩
  clear B0 R0 hb1
  go_wp2_with fail
  simp only [← hW, ← hN]
  clear hN hW
  refine (tripBegun n.size n.block n.spare W).mono ?_
  rintro e w2 ho
  rcases ho with ⟨hne, _⟩ | ⟨n', Q, P, R, hn', e1, e2, e3, rfl, B, w0, hbw, hB, hJ⟩
  · exact absurd (rightOk hn) hne
  · obtain rfl : n = n' := sameNm e1 e2 e3
    have hB2 : Below W.heap.size W w2 := hJ.below hbw hB
    have HBW : Hid (Below W.heap.size W w0 ∧ W.heap.size ≤ B) := ⟨hbw, hB⟩
    have HJ : Hid (TJ (fun x => x < B) w0 w2 Q P R (St.fresh n) (Rt.fresh n) [] [] 0) := hJ
    obtain ⟨x0, x1, x2⟩ := HCE.out w2 hB2
    have HMK := makeR n hn w2
    clear hJ hbw hB e1 e2 e3 hn' hB2
    go_wp2_with fail
    refine HMK.mono ?_
    rintro e w3 ⟨O, rfl, hO, hb3⟩
    have HS0 : Hid (SJ0 (fun x => x < B) w0 w3 Q P R O (St.fresh n) (Rt.fresh n) (Rt.fresh n) 0) := SJ0.new HJ.out hb3 hO (TI.new HNM.out)
    clear HMK HJ hO hb3 x0 x1 x2
    go_wp2_with fail
    go_loopw [18] (fun y wr => ∃ (j : Nat) (s : St), j ≤ k ∧ y = .int .i64 j ∧ SJ0 (fun x => x < B) w0 wr Q P R O s (Rt.fresh n) (Rt.fresh n) j ∧ s.n = n ∧ Zed s) (fun y _ => k - (intOf y).toNat)
    case atStart => exact ⟨0, St.fresh n, Nat.zero_le _, rfl, HS0.out, rfl, rfl, fun d hd => by cases hd⟩
    case round =>
      clear HS0
      obtain ⟨j, s, hj, rfl, hJ, hsn, hz⟩ := hrel
      have HJ : Hid (SJ0 (fun x => x < B) w0 wr Q P R O s (Rt.fresh n) (Rt.fresh n) j) := hJ
      have HBR : Hid (Below W.heap.size W wr) := hJ.below HBW.out.1 HBW.out.2
      have HSN : Hid (s.n = n) := hsn
      have HZ : Hid (Zed s) := hz
      clear hJ hsn hz
      by_cases hlt : j < k
      · rcases HOP.out with h0 | ⟨bb, off, rfl, hbl, hcs⟩
        · omega
        · obtain ⟨i0, i1⟩ := hcs j hlt
          have HBw : Below w.heap.size w wr := HB0.out.trans (HBR.out.mono HB0.out.size)
          have y0 : wr.cell? ⟨bb, off + j, none⟩ = some (.string (xs j)) := (HBw.cell (p := ⟨bb, off + j, none⟩) hbl).trans i0
          obtain ⟨D, hD, hfr⟩ := HJ.out.frame
          have HC := tripEnqueues (xs j) i1 hD
          have HFR : Hid (∀ w' s' r' c', TJ D wr w' Q P R s' r' [] [] c' → TI s' (Rt.fresh n) [] [] c' → SJ0 (fun x => x < B) w0 w' Q P R O s' r' (Rt.fresh n) c') := hfr
          have HTI : Hid (TI (enq s (xs j)).1 (Rt.fresh n) [] [] (j + 1)) := HJ.out.ti.2.enq (xs j)
          have HEN : Hid ((enq s (xs j)).1.n = n ∧ Zed (enq s (xs j)).1) := ⟨(enq_objs s (xs j)).1.trans HSN.out, HZ.out.enq (xs j)⟩
          clear hcs i0 i1 HBw hD hfr
          generalize (enq s (xs j)).1 = s2 at *
          generalize xs j = OS at *
          go_wp2_with fail
          refine HC.mono ?_
          rintro e w4 ⟨rfl, hT4⟩
          have HJ4 : Hid (SJ0 (fun x => x < B) w0 w4 Q P R O s2 (Rt.fresh n) (Rt.fresh n) (j + 1)) := HFR.out w4 s2 (Rt.fresh n) (j + 1) hT4 HTI.out
          clear HC hT4 y0 HFR HTI
          go_wp2
          go_roundw
          case rel => exact ⟨j + 1, s2, by omega, by go_num, HJ4.out, HEN.out.1, HEN.out.2⟩
          case measure => simp [intOf]; omega
      · obtain rfl : j = k := by omega
        clear hlt hj
        have HBL := tripBlocks HJ.out.tj
        rw [HSN.out] at HBL
        have hI := HJ.out.ti.1
        have htl := total_le HNM.out s.objs hI.sok.base.sz
        have hl8 := hI.sok.base.len
        obtain ⟨x0, x1, x2⟩ := HCE.out wr HBR.out
        obtain ⟨Tb, hTb⟩ : ∃ Tb, Tb = totalB n s.objs := ⟨_, rfl⟩
        obtain ⟨Ts, hTs⟩ : ∃ Ts, Ts = total n s.objs := ⟨_, rfl⟩
        have HTb : Hid (Tb = totalB n s.objs) := hTb
        have HTs : Hid (Ts = total n s.objs) := hTs
        rw [← hTb, ← hTs] at HBL htl
        clear hI hTb hTs
        go_wp2_with fail
        refine HBL.mono ?_
        rintro e w4 ⟨rfl, hb4⟩
        have HJ4 : Hid (SJ0 (fun x => x < B) w0 w4 Q P R O s (Rt.fresh n) (Rt.fresh n) j) := HJ.out.above hb4
        have HB4 : Hid (Below W.heap.size W w4) := HBR.out.trans (hb4.mono HBR.out.size)
        clear HBL HJ hb4 HBR x0 x1 x2
        have HSL : Hid (SJ (fun x => x < B) w0 ((w4.alloc (.cells Try.zeroCells63 63)).alloc (.cells Try.zeroCells63 63)) Q P R O w4.heap.size (w4.heap.size + 1) s (Rt.fresh n) (Rt.fresh n) (fun _ => 0) (fun _ => 0) j) := HJ4.out.losts
        have HFS : Hid (Ph1 s (Rt.fresh n) (Rt.fresh n) (fun _ => 0) (fun _ => 0) Ts 0) := by
          have hI := HJ4.out.ti.1
          have hF : Fst s (Rt.fresh n) (Rt.fresh n) (Lf fun _ => 0) (Lf fun _ => 0) (fun _ _ => 0) := Fst.start hI.sok HSN.out hI.obs HZ.out.2 HZ.out.1 rfl rfl
          refine .inl ⟨Nat.zero_le _, ?_, _, hF⟩
          rw [hF.left_eq, HZ.out.1, HSN.out, HTs.out]
          omega
        clear HJ4
        go_wp2_with fail
        generalize w4.heap.size + 1 = Y at *
        generalize w4.heap.size = X at *
        generalize (w4.alloc (.cells Try.zeroCells63 63)).alloc (.cells Try.zeroCells63 63) = w5 at *
        obtain ⟨os, hos⟩ : ∃ os, os = s.objs := ⟨_, rfl⟩
        have HOS : Hid (s.objs = os) := hos.symm
        have HTbo : Hid (Tb = totalB n os) := by rw [hos]; exact HTb.out
        have HTso : Hid (Ts = total n os) := by rw [hos]; exact HTs.out
        clear hos HTb HTs HZ HB4
        go_loopw [23] (fun y wr => ∃ (k : Nat) (s : St) (rx ry : Rt) (fx fy : Nat → Nat) (c : Nat), y = .int .i64 k ∧ SJ (fun x => x < B) w0 wr Q P R O X Y s rx ry fx fy c ∧ Ph1 s rx ry fx fy Ts k ∧ s.n = n ∧ s.objs = os ∧ rx.taken = 0 ∧ ry.taken = 0 ∧ c ≤ 8796093022208 + 2 * k) (fun y _ => Ts + 1 - (intOf y).toNat)
        case atStart => exact ⟨0, s, _, _, _, _, j, rfl, HSL.out, HFS.out, HSN.out, HOS.out, rfl, rfl, by omega⟩
        case round =>
          clear HSL HFS HSN HOS
          obtain ⟨i, s, rx, ry, fx, fy, c, rfl, hJ, hP, hsn, hso, htx, hty, hcc⟩ := hrel
          have HJ : Hid (SJ (fun x => x < B) w0 wr Q P R O X Y s rx ry fx fy c) := hJ
          have HBR : Hid (Below W.heap.size W wr) := hJ.tj.below HBW.out.1 HBW.out.2
          have HSN : Hid (s.n = n) := hsn
          have HSO : Hid (s.objs = os) := hso
          have HTX0 : Hid (rx.taken = 0 ∧ ry.taken = 0) := ⟨htx, hty⟩
          clear htx hty hsn hso
          rcases hP with ⟨hi, hli, U, hF⟩ | ⟨hie, hP2⟩
          · have HF : Hid (Fst s rx ry (Lf fx) (Lf fy) U) := hF
            obtain ⟨C, S, v2, v4, v5, l, hM, ⟨T, hT⟩, hI, hIo⟩ := hJ
            have HM : Hid (Sm (fun x => x < B) w0 wr C Q S v2 v4 v5 P R O X Y s.objs l rx ry fx fy) := hM
            have HI : Hid (TI s rx [] [] c ∧ TI s ry [] [] c) := ⟨hI, hIo⟩
            have HT : Hid (Rel s l T) := hT
            obtain ⟨d0, _, _, _, _, _⟩ := hM.tm.cells
            obtain ⟨la, lc, LD, hLI⟩ := hM.tm.sl
            have HEL := rNext l P (fun b => C b = 1) la lc LD wr (hT.ok2 hI.sok) hLI
            have hho := nxtM_honest hI.sok
            have hok := hI.ok hho
            have hlen := Ms.text_len hok
            obtain ⟨av, rest, htf, hk3, hk1⟩ := text_first hok
            obtain ⟨TX, hTX⟩ : ∃ TX, TX = (nxt s).2 := ⟨_, rfl⟩
            have eTX : TX = txt (text (nxtM s)) := by rw [hTX, nxt_M]
            have hTz : TX.size ≤ 28 := by rw [eTX, Ms.txt_size]; omega
            have HTX : Hid (TX = (nxt s).2) := hTX
            have HTE : Hid (TX = txt (text (nxtM s))) := eTX
            have HEN := fun W => isEnd_any TX av rest W (by rw [eTX, htf]) hTz
            have HOKM : Hid (Ms.ok (nxtM s)) := hok
            have HHO : Hid (Honest s.n s.objs (nxtM s)) := hho
            have HK13 : Hid ((nxtM s).kind = 1 ∨ (nxtM s).kind = 3) := by
              by_cases q : 0 < s.left
              · exact .inl (nxt_left hI.sok q).2
              · right; rw [(nxtM_end hI.sok (by omega)).1]; rfl
            have hav : (av == 69) = decide (i = Ts) := by
              by_cases q : 0 < s.left
              · rw [hk1 (nxt_left hI.sok q).2, decide_eq_false (by omega)]; rfl
              · rw [hk3 (by rw [(nxtM_end hI.sok (by omega)).1]; rfl), decide_eq_true (by omega)]; rfl
            rw [hav] at HEN
            obtain ⟨bit1, HS1⟩ := setAny a1 n1 cap1 i w hn1 (by omega) HF1.out
            obtain ⟨bit2, HS2⟩ := setAny a2 n2 cap2 i w hn2 (by omega) HF2.out
            clear hM hT hI hIo hLI hho hok hlen htf hTX eTX hk3 hk1 hF hav
            go_wp2_with fail
            refine HEL.mono ?_
            rintro e w6 ⟨l1, ho, hl2, t2⟩
            obtain ⟨rfl, T', hT'⟩ := HT.out.nxt HI.out.1.sok ho
            have HT' : Hid (∃ T, Rel (nxt s).1 l1 T) := ⟨T', hT'⟩
            have m1 := HM.out.send t2 (LndAt.mono ⟨la, lc, LD, hl2⟩ (fun b hb _ => .inl hb))
            have HM1 : Hid (Sm (fun x => x < B) w0 w6 (paint C 1 wr.heap.size) Q S v2 v4 v5 P R O X Y s.objs l1 rx ry fx fy) := m1
            clear HEL hl2 t2 HM d0 ho hT' m1
            generalize paint C 1 wr.heap.size = C1 at *
            rw [← HTX.out]
            go_wp2_with fail
            refine (HEN w6).mono ?_
            rintro e w7 ⟨rfl, rfl⟩
            clear HEN
            obtain ⟨v, hv⟩ : ∃ v, v = w7.drew := ⟨_, rfl⟩
            have mv : Sm (fun x => x < B) w0 v (paint C1 0 w7.heap.size) Q S v2 v4 v5 P R O X Y s.objs l1 rx ry fx fy := by rw [hv]; exact HM1.out.above (Below.refl _ _).drew
            have hBv : Below W.heap.size W v := fr_below mv.tm.bel HBW.out.1 HBW.out.2
            obtain ⟨_, y1, _, _, _, _⟩ := mv.tm.cells
            obtain ⟨_, _, y2⟩ := HCE.out v hBv
            have HS1v := HS1 v (HB0.out.trans (hBv.mono HB0.out.size))
            obtain ⟨z1, z2, z3, z4, z5⟩ := HNM.out
            have HMI := tripMisses s rx fx R X (fun b => paint C1 0 w7.heap.size b = 2) TX bit1 n.spare v HOKM.out HK13.out HTE.out (by rw [HSN.out]) z5 (by rw [← HSN.out]; exact HF.out.lx) (HI.out.1.rok.ok (by omega)) (HI.out.1.hear HHO.out (by omega)).1 mv.tm.rl mv.lx (by rw [mv.cx]; omega)
            have HMv : Hid (Sm (fun x => x < B) w0 v (paint C1 0 w7.heap.size) Q S v2 v4 v5 P R O X Y s.objs l1 rx ry fx fy) := mv
            clear HM1 mv hBv HS1 z1 z2 z3 z4
            generalize paint C1 0 w7.heap.size = C2 at *
            go_wp2_with fail
            refine wp_region_still_tail 11 (by kernel_rfl) (by kernel_rfl) ?_
            change wpStill _ _ (World.drew _) (fun a' => wpList _ _ _ _ a' (World.drew _)) _ _
            simp only [← hv]
            clear hv
            simp only [List.take_succ_cons, List.take_zero, List.drop_succ_cons, List.drop_zero]
            still_step
            still_step
            still_step
            still_step
            still_step
            still_step
            still_step
            still_step
            still_call HS1v
            still_step
            still_step
            refine wpStill_nil ?_
            go_wp2_with fail
            refine HMI.mono ?_
            rintro e w8 ⟨rfl, rx', fx', hmx, hl8', hlx, t8⟩
            have HMX : Hid (Miss s rx (Lf fx) rx' (Lf fx')) := hmx
            have mT := miss_ti HI.out.1 (by omega) hmx
            have HTI1 : Hid (TI (nxt s).1 rx' [] [] (c + 2)) := mT.1
            have htk : rx'.taken = rx.taken := mT.2
            have m2 := HMv.out.hearR t8 hl8' hlx htk
            have HM2 : Hid (Sm (fun x => x < B) w0 w8 (paint C2 2 v.heap.size) Q S v2 v4 v5 P R O X Y s.objs l1 rx' ry fx' fy) := m2
            have HTK1 : Hid (rx'.taken = 0) := htk.trans HTX0.out.1
            clear HMI HS1v hmx hl8' hlx t8 mT htk m2 HMv y1 y2
            generalize paint C2 2 v.heap.size = C3 at *
            obtain ⟨v', hv⟩ : ∃ v', v' = w8.drew := ⟨_, rfl⟩
            have mv : Sm (fun x => x < B) w0 v' (paint C3 0 w8.heap.size) Q S v2 v4 v5 P R O X Y s.objs l1 rx' ry fx' fy := by rw [hv]; exact HM2.out.above (Below.refl _ _).drew
            have hBv : Below W.heap.size W v' := fr_below mv.tm.bel HBW.out.1 HBW.out.2
            obtain ⟨_, _, y2⟩ := HCE.out v' hBv
            have HS2v := HS2 v' (HB0.out.trans (hBv.mono HB0.out.size))
            have HMI := tripMisses s ry fy O Y (fun b => paint C3 0 w8.heap.size b = 3) TX bit2 n.spare v' HOKM.out HK13.out HTE.out (by rw [HSN.out]) z5 (by rw [← HSN.out]; exact HF.out.ly) (HI.out.2.rok.ok (by omega)) (HI.out.2.hear HHO.out (by omega)).1 mv.ro mv.ly (by rw [mv.cy]; omega)
            have HMv : Hid (Sm (fun x => x < B) w0 v' (paint C3 0 w8.heap.size) Q S v2 v4 v5 P R O X Y s.objs l1 rx' ry fx' fy) := mv
            clear HM2 mv hBv HS2
            generalize paint C3 0 w8.heap.size = C4 at *
            go_wp2_with fail
            refine wp_region_still_tail 8 (by kernel_rfl) (by kernel_rfl) ?_
            change wpStill _ _ (World.drew _) (fun a' => wpList _ _ _ _ a' (World.drew _)) _ _
            simp only [← hv]
            clear hv
            simp only [List.take_succ_cons, List.take_zero, List.drop_succ_cons, List.drop_zero]
            still_step
            still_step
            still_step
            still_step
            still_step
            still_call HS2v
            still_step
            still_step
            refine wpStill_nil ?_
            go_wp2_with fail
            refine HMI.mono ?_
            rintro e w9 ⟨rfl, ry', fy', hmy, hl9, hly, t9⟩
            have mT := miss_ti HI.out.2 (by omega) hmy
            have m4 := HMv.out.hearO t9 hl9 hly
            have HFJ : Hid (SJ (fun x => x < B) w0 w9 Q P R O X Y (nxt s).1 rx' ry' fx' fy' (c + 2)) := by
              rw [← (nxt_same s).2] at m4
              exact ⟨_, _, _, _, _, _, m4, HT'.out, HTI1.out, mT.1⟩
            have HTK2 : Hid (ry'.taken = 0) := mT.2.trans HTX0.out.2
            have HNS : Hid ((nxt s).1.n = n ∧ (nxt s).1.objs = os) := ⟨(nxt_same s).1.trans HSN.out, (nxt_same s).2.trans HSO.out⟩
            have HMY : Hid (Miss s ry (Lf fy) ry' (Lf fy')) := hmy
            clear HMI HS2v hmy hl9 hly t9 mT m4 HMv y2
            by_cases h0 : 0 < s.left
            · have hd : decide (i = Ts) = false := decide_eq_false (by omega)
              have hd2 : ((i : Int) == (Ts : Int)) = false := by simp; omega
              have HPN : Hid (Ph1 (nxt s).1 rx' ry' fx' fy' Ts (i + 1)) := by
                obtain ⟨U', hU⟩ := HF.out.send h0 HMX.out HMY.out
                have := (nxt_left HI.out.1.sok h0).1
                exact .inl ⟨by omega, by omega, U', hU⟩
              rw [hd]
              clear hd
              go_wp2
              go_roundw
              case rel => exact ⟨i + 1, _, rx', ry', fx', fy', c + 2, by go_num, HFJ.out, HPN.out, HNS.out.1, HNS.out.2, HTK1.out, HTK2.out, by omega⟩
              case measure => simp [intOf]; omega
            · have hd : decide (i = Ts) = true := decide_eq_true (by omega)
              have hd2 : ((i : Int) == (Ts : Int)) = true := by simp; omega
              have HPN : Hid (Ph1 (nxt s).1 rx' ry' fx' fy' Ts (i + 1)) := by
                obtain ⟨p1, p2, p3, p4, p5, p6, p7, p8⟩ := HF.out.fin (by omega) HMX.out HMY.out
                right
                refine ⟨by omega, ?_⟩
                rw [p1]
                unfold Ph2
                rw [p2, p3]
                exact ⟨⟨_, p4⟩, p5, p6, p7, p8⟩
              rw [hd]
              clear hd
              go_wp2
              go_roundw
              case rel => exact ⟨i + 1, _, rx', ry', fx', fy', c + 2, by go_num, HFJ.out, HPN.out, HNS.out.1, HNS.out.2, HTK1.out, HTK2.out, by omega⟩
              case measure => simp [intOf]; omega
          · have hI := HJ.out.ti.1
            have HRN : Hid (Rnd s rx ry fx fy Tb 0 0) := Rnd.start hP2 (by rw [hI.dl, HSN.out, HSO.out]; exact HTbo.out.symm)
            have hTl : Ts ≤ 2048 ∧ Tb ≤ 2048 := by omega
            have hgt : Ts < i := by omega
            have hcc2 : c ≤ 8796093122208 := by omega
            clear hie hcc
            clear hP2 hI hJ htl hl8 HBR HOP
            obtain ⟨PP, hPP⟩ : ∃ PP, PP = 2 * Tb * n.block := ⟨_, rfl⟩
            have HPP : Hid (PP = 2 * Tb * n.block) := hPP
            have pp1 : (2 * (Tb : Int)) * (n.block : Int) = (PP : Int) := by rw [hPP]; simp
            have pp2 : PP ≤ 4096 * 8 := by rw [hPP]; exact Nat.mul_le_mul (by omega) (by have := HNM.out.2.2.2.1; omega)
            obtain ⟨MO, hMO⟩ : ∃ MO, MO = Ts + PP := ⟨_, rfl⟩
            have HMO : Hid (MO = Ts + PP) := hMO
            have mo1 : (Ts : Int) + (PP : Int) = (MO : Int) := by omega
            have mo2 : MO ≤ 65536 := by omega
            clear hPP hMO
            go_wp2_with fail
            have hdf : decide (i ≤ Ts) = false := decide_eq_false (by omega)
            simp only [hdf]
            clear hdf hgt
            go_loopw [28, 29] (fun x y wr => ∃ (i ag : Nat) (s : St) (rx ry : Rt) (c : Nat), i ≤ 2 * Tb + 1 ∧ y = .int .i64 i ∧ x = .int .i64 ag ∧ SJ (fun x => x < B) w0 wr Q P R O X Y s rx ry fx fy c ∧ Rnd s rx ry fx fy Tb i ag ∧ s.n = n ∧ s.objs = os ∧ rx.taken = 0 ∧ ry.taken = 0 ∧ c ≤ 8796093122208 + i * 262144 ∧ ag ≤ i * 65536) (fun _ y _ => 2 * Tb + 2 - (intOf y).toNat)
            case atStart => exact ⟨0, 0, s, rx, ry, c, by omega, rfl, rfl, HJ.out, HRN.out, HSN.out, HSO.out, HTX0.out.1, HTX0.out.2, by omega, by omega⟩
            case round =>
              clear HJ HRN HSN HSO HTX0 hcc2
              obtain ⟨i, ag, s, rx, ry, c, hi, rfl, rfl, hJ, hR, hsn, hso, htx, hty, hcc, hag⟩ := hrel
              have HR : Hid (Rnd s rx ry fx fy Tb i ag) := hR
              have HNO : Hid (s.n = n ∧ s.objs = os ∧ rx.taken = 0 ∧ ry.taken = 0) := ⟨hsn, hso, htx, hty⟩
              clear hR hsn hso htx hty
              by_cases hlt : i ≤ 2 * Tb
              · obtain ⟨C, S, v2, v4, v5, l, hM, ⟨T, hT⟩, hI, hIo⟩ := hJ
                have HRX : Hid (ROk rx ∧ ROk ry) := ⟨hI.rok.ok (by omega), hIo.rok.ok (by omega)⟩
                have HKY : Hid (Keys s) := hI.key
                obtain ⟨d0, d1, _, _, _, _⟩ := hM.tm.cells
                have HA := tripAsks Q P R (fun b => C b = 1) (fun b => C b = 2) wr hI (by omega) hT d0 hM.tm.sl hM.tm.rl
                have HM : Hid (Sm (fun x => x < B) w0 wr C Q S v2 v4 v5 P R O X Y s.objs l rx ry fx fy) := hM
                have HI : Hid (TI s rx [] [] c ∧ TI s ry [] [] c) := ⟨hI, hIo⟩
                clear hM hT hI hIo d0
                go_wp2_with fail
                refine HA.mono ?_
                rintro e w6 ⟨rfl, ho⟩
                have hJ1 := SJ.asked HM.out HI.out.1 HI.out.2 _ ho
                obtain ⟨s1, hs1⟩ : ∃ s1, s1 = s.asked (rx.items.take 8) := ⟨_, rfl⟩
                have HS1 : Hid (s1 = s.asked (rx.items.take 8)) := hs1
                rw [← hs1] at hJ1
                obtain ⟨C, S, v2, v4, v5, l, hM, ⟨T, hT⟩, hI, hIo⟩ := hJ1
                obtain ⟨d0, _, _, _, _, _⟩ := hM.tm.cells
                have HA2 := tripAsks Q P O (fun b => C b = 1) (fun b => C b = 3) w6 hIo (by omega) hT d0 hM.tm.sl hM.ro
                have HM1 : Hid (Sm (fun x => x < B) w0 w6 C Q S v2 v4 v5 P R O X Y s1.objs l rx ry fx fy) := hM
                have HI1 : Hid (TI s1 rx [] [] (c + 1) ∧ TI s1 ry [] [] (c + 1)) := ⟨hI, hIo⟩
                clear hM hT hI hIo d0 d1 HA ho HM HI hs1
                go_wp2_with fail
                refine HA2.mono ?_
                rintro e w7 ⟨rfl, ho⟩
                have hJ2 := SJ.asked HM1.out HI1.out.1 HI1.out.2 _ ho
                obtain ⟨s2, hs2⟩ : ∃ s2, s2 = s1.asked (ry.items.take 8) := ⟨_, rfl⟩
                have es1 : s1 = s.asked (rx.items.take 8) := HS1.out
                have HS2 : Hid (s2 = (s.asked (rx.items.take 8)).asked (ry.items.take 8)) := by rw [hs2, es1]; exact rfl
                rw [← hs2] at hJ2
                have hrm := run_most hJ2.ti.1
                have en2 : s2.n = n := by rw [hs2, es1]; exact HNO.out.1
                have eo2 : s2.objs = os := by rw [hs2, es1]; exact HNO.out.2.1
                rw [en2, eo2, ← HTso.out, ← HTbo.out] at hrm
                have hlm : s2.left ≤ MO := by
                  have h2 : Tb * n.block ≤ 2 * Tb * n.block := Nat.mul_le_mul_right _ (by omega)
                  have h3 := HPP.out
                  have h4 := HMO.out
                  omega
                have HSE := tripSecond MO hlm (by omega) (by omega) hJ2
                have hBv : Below W.heap.size W w7 := hJ2.tj.below HBW.out.1 HBW.out.2
                obtain ⟨_, y1, _⟩ := HCE.out w7 hBv
                have HNX : Hid (Rnd (sendN (s2.left + 1) s2 rx).1 (sendN (s2.left + 1) s2 rx).2 (sendN (s2.left + 1) s2 ry).2 fx fy Tb (i + 1) (ag + s2.left)) := HR.out.next HRX.out.1 HRX.out.2 HKY.out HS2.out
                have HSM : Hid ((sendN (s2.left + 1) s2 rx).1.n = n ∧ (sendN (s2.left + 1) s2 rx).1.objs = os) := by
                  have q := sendN_same (s2.left + 1) s2 rx
                  exact ⟨q.1.trans en2, q.2.trans eo2⟩
                have HTK : Hid ((sendN (s2.left + 1) s2 rx).2.taken = 0 ∧ (sendN (s2.left + 1) s2 ry).2.taken = 0) := ⟨(sendN_taken _ s2 rx).trans HNO.out.2.2.1, (sendN_taken _ s2 ry).trans HNO.out.2.2.2⟩
                clear HA2 ho HM1 HI1 hs2 hrm en2 eo2 hJ2 hBv HR HRX HKY HS1 HS2 es1
                generalize (sendN (s2.left + 1) s2 rx).1 = s3 at *
                generalize (sendN (s2.left + 1) s2 rx).2 = rx3 at *
                generalize (sendN (s2.left + 1) s2 ry).2 = ry3 at *
                generalize s2.left = LF at *
                go_wp2_with fail
                refine HSE.mono ?_
                rintro e w8 ⟨rfl, hJ8⟩
                have HJ8 : Hid (SJ (fun x => x < B) w0 w8 Q P R O X Y s3 rx3 ry3 fx fy (c + 1 + 1 + 2 * (LF + 1))) := hJ8
                clear HSE hJ8 y1
                go_wp2
                go_roundw
                case rel => exact ⟨i + 1, ag + LF, s3, rx3, ry3, _, by omega, by go_num, by go_num, HJ8.out, HNX.out, HSM.out.1, HSM.out.2, HTK.out.1, HTK.out.2, by omega, by omega⟩
                case measure => simp [intOf]; omega
              · have hi2 : i = 2 * Tb + 1 := by omega
                have hix := HR.out.ix
                have hiy := HR.out.iy
                have x0 : inc s (Lf fx) = 0 := by omega
                have y0 : inc s (Lf fy) = 0 := by omega
                obtain ⟨U, hS⟩ := HR.out.sec
                obtain ⟨hI, hIo⟩ := hJ.ti
                have hso := HNO.out.2.1
                have htu : ∀ d ∈ s.debts, U d.o d.b = s.n.many (objOf s d.o).size d.b + d.turn := fun d hd => (hS.tu d hd).1
                have HIX : Hid (rx.items = []) := done_items hI.sok (hI.rok.ok (by omega)) hS.ax hS.hx hS.nx hI.key htu (inc_zero x0)
                have HIY : Hid (ry.items = []) := done_items hI.sok (hIo.rok.ok (by omega)) hS.ay hS.hy hS.ny hI.key htu (inc_zero y0)
                have hsum := hS.sum x0 y0 hI.key HR.out.out
                rw [HR.out.sum] at hsum
                have HAG : Hid (ag = mostOf fx fy 2048) := hsum
                have hfb : ∀ j, j < 2048 → fx j ≤ 8 ∧ fy j ≤ 8 := fun j hj => by
                  have e : j / 256 * 256 + j % 256 = j := by omega
                  have q1 := hS.lx (j / 256) (j % 256) (Nat.mod_lt _ (by decide))
                  have q2 := hS.ly (j / 256) (j % 256) (Nat.mod_lt _ (by decide))
                  unfold Lf at q1 q2
                  rw [e] at q1 q2
                  have q3 := hI.sok.base.nok.2.2.2.2
                  omega
                have HKX : Hid (rx.known = os.length ∧ ry.known = os.length) := ⟨by rw [HR.out.kx, hso], by rw [HR.out.ky, hso]⟩
                have HL8 : os.length ≤ 8 := by rw [← hso]; exact hI.sok.base.len
                have HJ : Hid (SJ (fun x => x < B) w0 wr Q P R O X Y s rx ry fx fy c) := hJ
                obtain ⟨C, S, v2, v4, v5, l, hM, _, _, _⟩ := hJ
                have HMO2 := tripMost X Y fx fy wr hM.lx hM.ly hfb
                clear hM hI hIo hS htu hsum hfb hix hiy x0 y0 HR hso U hi2
                generalize mostOf fx fy 2048 = WT at *
                go_wp2_with fail
                refine HMO2.mono ?_
                rintro e w6 ⟨rfl, hb6⟩
                have HJ6 : Hid (SJ (fun x => x < B) w0 w6 Q P R O X Y s rx ry fx fy c) := HJ.out.above hb6
                clear HMO2 HJ hb6
                obtain ⟨L, hL⟩ : ∃ L, L = os.length := ⟨_, rfl⟩
                have HLS : Hid (L = s.objs.length) := by unfold Hid; rw [HNO.out.2.1]; exact hL
                rw [← hL] at HKX HL8
                have hC2 : c ≤ 4611686018424387904 := by omega
                clear hL hcc hag hi hlt HCE
                go_wp2_with fail
                generalize decide (i ≤ 2 * Tb) = DB at *
                go_loopw [34] (fun y wr => ∃ (i : Nat) (rx ry : Rt), i ≤ L ∧ y = .int .i64 i ∧ SJ (fun x => x < B) w0 wr Q P R O X Y s rx ry fx fy c ∧ rx.items = [] ∧ ry.items = [] ∧ rx.known = L ∧ ry.known = L ∧ rx.taken = i ∧ ry.taken = i) (fun y _ => L - (intOf y).toNat)
                case atStart => exact ⟨0, rx, ry, Nat.zero_le _, rfl, HJ6.out, HIX.out, HIY.out, HKX.out.1, HKX.out.2, HNO.out.2.2.1, HNO.out.2.2.2⟩
                case round =>
                  clear HJ6 HIX HIY HKX
                  obtain ⟨i, rx, ry, hi, rfl, hJ, hix, hiy, hkx, hky, htx, hty⟩ := hrel
                  have HJ : Hid (SJ (fun x => x < B) w0 wr Q P R O X Y s rx ry fx fy c) := hJ
                  obtain ⟨C, S, v2, v4, v5, l, hM, hT, hI, hIo⟩ := hJ
                  obtain ⟨_, _, x2, x3, _, _⟩ := hM.tm.cells
                  have O2 := hM.tm.wm.own 2 (.inl rfl)
                  have et : tV P R v2 rx.taken v4 v5 2 = v2 := rfl
                  have e2 : txs s.objs [] [] 2 = s.objs := rfl
                  rw [et, e2] at O2
                  obtain ⟨ax, cx, hv⟩ := owns_form O2
                  rw [hv, ← HLS.out] at x2
                  rw [htx] at x3
                  clear O2 et e2 hv
                  by_cases hlt : i < L
                  · have tn := take_now hiy (by rw [hky, hty]; exact hlt)
                    obtain ⟨p1, p2, p3, p4⟩ := hIo.hon.take (hIo.rok.ok (by omega)) tn
                    have HTK := rTakeR ry O (fun b => C b = 3) wr (hIo.rok.ok (by omega)) hIo.tw hM.ro
                    rw [tn, p2, p3, hty] at HTK
                    have tx := take_now hix (by rw [hkx, htx]; exact hlt)
                    obtain ⟨_, _, r3, _⟩ := hI.hon.take (hI.rok.ok (by omega)) tx
                    have HRX : Hid (rx.take.1 = { rx with taken := i + 1 }) := by unfold Hid; rw [r3, htx]
                    have hTo : TI s { ry with taken := i + 1 } [] [] c := by
                      have q := hIo.take (by omega)
                      rw [p3, hty] at q
                      exact q
                    have HTO : Hid (TI s { ry with taken := i + 1 } [] [] c) := hTo
                    have HM : Hid (Sm (fun x => x < B) w0 wr C Q S v2 v4 v5 P R O X Y s.objs l rx ry fx fy) := hM
                    have HRI : Hid ((∃ T, Rel s l T) ∧ TI s rx [] [] c) := ⟨hT, hI⟩
                    have HIT : Hid (rx.items = [] ∧ ry.items = [] ∧ rx.known = L ∧ ry.known = L) := ⟨hix, hiy, hkx, hky⟩
                    have hiS : i < s.objs.length := by rw [← HLS.out]; exact hlt
                    have HXO : Hid (s.objs[i]? = some (s.objs.getD i ⟨#[]⟩)) := by unfold Hid; rw [List.getD_eq_getElem?_getD, List.getElem?_eq_getElem hiS]; rfl
                    have HIS : Hid (i < s.objs.length) := hiS
                    obtain ⟨ry1, hry1⟩ : ∃ r : Rt, r = { ry with taken := i + 1 } := ⟨_, rfl⟩
                    have HRY : Hid (ry1 = { ry with taken := i + 1 }) := hry1
                    rw [← hry1] at HTK HTO
                    obtain ⟨XS, hXS⟩ : ∃ XS, XS = s.objs.getD i ⟨#[]⟩ := ⟨_, rfl⟩
                    rw [← hXS] at HTK HXO
                    clear hM hT hI hIo hix hiy hkx hky htx hty tn tx p1 p2 p3 p4 r3 hTo hiS hry1 hXS HJ
                    go_wp2_with fail
                    refine HTK.mono ?_
                    rintro e w7 ⟨rfl, hl7, t7⟩
                    have HJ7 : Hid (SJ (fun x => x < B) w0 w7 Q P R O X Y s rx ry1 fx fy c) := by
                      have m := HM.out.hearO (Touch.mono t7 (fun b q => .inl q)) hl7 (HM.out.ly.of_block (t7.block Y HM.out.ly.lt (by rw [HM.out.cy]; omega)))
                      exact ⟨_, _, _, _, _, _, m, HRI.out.1, HRI.out.2, HTO.out⟩
                    obtain ⟨D, hD, hfr⟩ := HJ7.out.frame
                    have HTA := tripTakes (by omega) hD
                    have HFR : Hid (∀ w' s' r' c', TJ D w7 w' Q P R s' r' [] [] c' → TI s' ry1 [] [] c' → SJ (fun x => x < B) w0 w' Q P R O X Y s' r' ry1 fx fy c') := hfr
                    clear HTK hl7 t7 HM hD hfr x2 x3
                    go_wp2_with fail
                    refine HTA.mono ?_
                    rintro e w8 ⟨rfl, hT8⟩
                    have hJ8 := HFR.out w8 s rx.take.1 c hT8 HTO.out
                    rw [HRX.out] at hJ8
                    have HJ8 : Hid (SJ (fun x => x < B) w0 w8 Q P R O X Y s { rx with taken := i + 1 } ry1 fx fy c) := hJ8
                    obtain ⟨C, S, v2, v4, v5, l, hM, hT, hI, hIo⟩ := hJ8
                    obtain ⟨_, _, x2, _, _, _⟩ := hM.tm.cells
                    have O2 := hM.tm.wm.own 2 (.inl rfl)
                    have et : tV P R v2 ({ rx with taken := i + 1 } : Rt).taken v4 v5 2 = v2 := rfl
                    have e2 : txs s.objs [] [] 2 = s.objs := rfl
                    rw [et, e2] at O2
                    obtain ⟨g, cap2, hv2, hgc⟩ := owns_cells O2 (by rw [← HLS.out]; omega)
                    have y2 := hgc i (.string XS) (by unfold strs; rw [List.getElem?_map, HXO.out]; rfl)
                    rw [hv2, ← HLS.out] at x2
                    have hli : (i : Int) < (L : Int) := by omega
                    clear HTA hT8 HFR HJ7 hM hT hI hIo O2 et e2 hv2 hgc
                    go_wp2_with fail
                    go_roundw
                    case rel => exact ⟨i + 1, { rx with taken := i + 1 }, ry1, by omega, by go_num, HJ8.out, by rw [lenIn_taken]; exact HIT.out.1, by rw [HRY.out, lenIn_taken]; exact HIT.out.2.1, HIT.out.2.2.1, by rw [HRY.out]; exact HIT.out.2.2.2, rfl, by rw [HRY.out]⟩
                    case measure => simp [intOf]; omega
                  · obtain rfl : i = L := by omega
                    clear hM hT hI hIo hix hiy hkx hky htx hty hlt hi
                    have hag2 : ag = WT := HAG.out
                    subst hag2
                    go_wp2_with fail
                    go_quiet (fail)
                    have HBF : Hid (Below w.heap.size w (wr.drewN nq)) := ((HJ.out.above (below_drewN (Below.refl _ _) nq)).tj.below (HB0.out.trans (HBW.out.1.mono HB0.out.size)) (Nat.le_trans HB0.out.size HBW.out.2))
                    clear HJ x2 x3
                    generalize wr.drewN nq = w9 at *
                    go_wp2
                    go_ret
                    exact ⟨rfl, HBF.out⟩
end Sn
end Go.Proofs.Ytkgnmcekeeannab
