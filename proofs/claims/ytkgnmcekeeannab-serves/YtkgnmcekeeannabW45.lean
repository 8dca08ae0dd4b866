import Derived.Test.YtkgnmcekeeannabW44
/-
  One step of a trip.
-/
namespace Go.Proofs.Ytkgnmcekeeannab
open Go.RowKit Go.Deep
namespace Sn
open Bs
open Ms (txt text M It Tells)
set_option linter.unusedVariables false
section
variable {nn : Nm} {B : Nat → Prop} {w0 w : World} {Q P R : Nat} {c : Nat}
theorem TE.above {w1 : World} (h : TE nn B w0 w Q P R c) (hb : Below w.heap.size w w1) : TE nn B w0 w1 Q P R c := by
  obtain ⟨s, r, on, bk, h, h1, h2, h3⟩ := h
  exact ⟨s, r, on, bk, h.above hb, h1, h2, h3⟩
theorem TE.mono {c' : Nat} (h : TE nn B w0 w Q P R c) (hc : c ≤ c') : TE nn B w0 w Q P R c' := by
  obtain ⟨s, r, on, bk, h, h1, h2, h3⟩ := h
  exact ⟨s, r, on, bk, h.mono hc, by omega, by omega, h3⟩
theorem TJ.te {s : St} {r : Rt} {on bk : List ByteArray} (h : TJ B w0 w Q P R s r on bk c) (h1 : on.length ≤ c) (h2 : bk.length ≤ c) (h3 : s.n = nn) : TE nn B w0 w Q P R c := ⟨s, r, on, bk, h, h1, h2, h3⟩
set_option maxRecDepth 100000 in
set_option maxHeartbeats 4000000 in
theorem step_next (kd A Bv Cv : Int) (tx : ByteArray) (a1 : -9223372036854775808 ≤ A) (a2 : A ≤ 9223372036854775807) (b1 : -9223372036854775808 ≤ Bv) (b2 : Bv ≤ 9223372036854775807) (k1 : -9223372036854775808 ≤ Cv) (k2 : Cv ≤ 9223372036854775807) (htx : tx.size ≤ maxLen) (hc : c ≤ 4398046511104) (hk : kd = 2) (h : TE nn B w0 w Q P R c) : Calls Try.prog 10 #[.pointer (some ⟨Q, 0, none⟩), .agg #[.int .i64 kd, .int .i64 A, .int .i64 Bv, .int .i64 Cv, .string tx]] w fun e w' => e = .returned (.bool true) ∧ TE nn B w0 w' Q P R (c + 1) := by
  subst hk
  have h1 := h.above ((Below.refl _ _).alloc (Nat.le_refl _) (.cells #[.int .i64 2, .int .i64 A, .int .i64 Bv, .int .i64 Cv, .string tx] 40))
  obtain ⟨s, r, on, bk, ⟨C, S, v2, v4, v5, l, hM, ⟨T, hT⟩, hI⟩, hon, hbk, hnn⟩ := h1
  have HNN : Hid (s.n = nn) := hnn
  clear hnn
  have HM : Hid (Tm B w0 (w.alloc (.cells #[.int .i64 2, .int .i64 A, .int .i64 Bv, .int .i64 Cv, .string tx] 40)) C Q S v2 r.taken v4 v5 s.objs on bk P R l r) := hM
  have HI : Hid (TI s r on bk c) := hI
  have HT : Hid (Rel s l T) := hT
  obtain ⟨d0, d1, d2, d3, d4, d5⟩ := hM.cells
  obtain ⟨la, lc, LD, hLI⟩ := hM.sl
  have HEL := rNext l P (fun b => C b = 1) la lc LD _ (hT.ok2 hI.sok) hLI
  have HTI : Hid (TI (nxt s).1 r (on ++ [(nxt s).2]) bk (c + 1)) := hI.nxt
  have hsm := nxt_same s
  have HOB : Hid ((nxt s).1.objs = s.objs) := hsm.2
  have HN1 : Hid ((nxt s).1.n = nn) := by unfold Hid; rw [hsm.1]; exact HNN.out
  have hnx : (nxt s).2.toList.isEmpty = false := by
    rw [Ms.size_isEmpty, nxt_M, Ms.txt_size]
    have := (Ms.text_len (hI.ok (nxtM_honest hI.sok))).1
    exact decide_eq_false (by omega)
  clear hM hT hI hLI hsm
  go_enter Try.func10, Try.ntmps10
  go_wp2_with fail
  refine HEL.mono ?_
  rintro e w2 ⟨l1, ho, hl2, t2⟩
  obtain ⟨rfl, T', hT'⟩ := HT.out.nxt HI.out.sok ho
  have HT' : Hid (∃ T, Rel (nxt s).1 l1 T) := ⟨T', hT'⟩
  have m1 := HM.out.send t2 (LndAt.mono ⟨la, lc, LD, hl2⟩ (fun b hb _ => .inl hb))
  clear HEL hl2 t2 HM d0 d1 d2 d3 d4 d5 ho hT'
  generalize (nxt s).1 = S1 at *
  generalize (nxt s).2 = X at *
  obtain ⟨x0, x1, x2, x3, x4, x5⟩ := m1.cells
  have O4 := m1.wm.own 4 (.inr (.inl rfl))
  have et : tV P R v2 r.taken v4 v5 4 = v4 := rfl
  have ex : txs s.objs on bk 4 = on := rfl
  rw [et, ex] at O4
  obtain ⟨ax, cx, hv⟩ := owns_form O4
  obtain ⟨n, hn⟩ : ∃ n, n = on.length := ⟨_, rfl⟩
  have HN : Hid (n = on.length) := hn
  have HV : Hid (v4 = .slice ax n cx) := by unfold Hid; rw [hn]; exact hv
  have OW : Hid (w2.ownsRow 0 9 1 (.slice ax n cx) n (strs on)) := by have q := O4; rw [HV.out, ← hn] at q; exact q
  have hbl : n ≤ 4398046511104 := by omega
  rw [HV.out] at x4
  have HM1 : Hid (Tm B w0 w2 _ Q S v2 r.taken v4 v5 s.objs on bk P R _ r) := m1
  have hQ1 := m1.wm.row.lt
  obtain ⟨i0, hi0, hz0, hz1, hz2⟩ := info_parts3 infoStr
  clear m1 O4 hv et ex hn
  generalize hXS : strs on = XS at *
  have HXS : Hid (strs on = XS) := hXS
  clear hXS
  go_wp2_with (at_builtin; refine wpList_append_own_at _ rfl _ _ 45 rfl 0 9 i0 (.string ⟨#[]⟩) 1 16 Try.underlying45 hi0 hz0 hz1 hz2 rfl (by decide) (.slice ax n cx) n XS rfl (OW.out.alloc _) ⟨w2.heap.size, 0, none⟩ 1 1 [.string X] rfl rfl Cod.one_news (by intro u hu; simp at hu; subst hu; rfl) (by unfold maxLen; omega) (by omega) (Nat.zero_le _) ?_)
  intro v' w3 hown' hgrow _ hat
  obtain ⟨ao2, co2, rfl⟩ := owns_form hown'
  have hg : w2.grownBy w3 v4.ownBlock := by rw [HV.out]; exact (World.grownBy_alloc w2 _ _).trans hgrow
  rw [← HXS.out] at hown'
  have HF : Hid (TE nn B w0 (w3.setCell ⟨Q, 4, none⟩ (.slice ao2 (n + 1) co2)) Q P R (c + 1)) := by
    obtain ⟨C5, S5, m5⟩ := HM1.out.onto (x := X) (v' := .slice ao2 (n + 1) co2) (by rw [← HN.out]; exact hown') hg (fun x hx => by
      rw [HV.out]
      rcases hat with e | e
      · rw [e] at hx; exact .inl hx
      · rw [e] at hx; simp at hx; exact .inr (by omega))
    rw [← HOB.out] at m5
    exact ⟨S1, r, on ++ [X], bk, ⟨_, _, _, _, _, _, m5, HT'.out, HTI.out⟩, by simp; omega, by omega, HN1.out⟩
  have R2 := HM1.out.wm.row.of_block (hg.block Q hQ1 (fun e => by have := (HM1.out.wm.gv 4 (.inr (.inl rfl)) Q e.symm).2; rw [HM1.out.wm.sq] at this; omega))
  have c2' : w3.cell? ⟨Q, 4, none⟩ = some (.slice ax n cx) := by rw [← HV.out]; exact R2.cell (by decide)
  have f2' := R2.frozen 4
  clear hown' hgrow hat R2 x0 x1 x2 x3 x4 x5 OW HM1 hg
  go_wp2
  go_ret
  exact ⟨by simp, HF.out⟩
set_option maxRecDepth 100000 in
set_option maxHeartbeats 4000000 in
theorem step_request (kd A Bv Cv : Int) (tx : ByteArray) (a1 : -9223372036854775808 ≤ A) (a2 : A ≤ 9223372036854775807) (b1 : -9223372036854775808 ≤ Bv) (b2 : Bv ≤ 9223372036854775807) (k1 : -9223372036854775808 ≤ Cv) (k2 : Cv ≤ 9223372036854775807) (htx : tx.size ≤ maxLen) (hc : c ≤ 4398046511104) (hk : kd = 5) (h : TE nn B w0 w Q P R c) : Calls Try.prog 10 #[.pointer (some ⟨Q, 0, none⟩), .agg #[.int .i64 kd, .int .i64 A, .int .i64 Bv, .int .i64 Cv, .string tx]] w fun e w' => e = .returned (.bool true) ∧ TE nn B w0 w' Q P R (c + 1) := by
  subst hk
  have h1 := h.above ((Below.refl _ _).alloc (Nat.le_refl _) (.cells #[.int .i64 5, .int .i64 A, .int .i64 Bv, .int .i64 Cv, .string tx] 40))
  obtain ⟨s, r, on, bk, ⟨C, S, v2, v4, v5, l, hM, hT, hI⟩, hon, hbk, hnn⟩ := h1
  have HNN : Hid (s.n = nn) := hnn
  clear hnn
  have HM : Hid (Tm B w0 (w.alloc (.cells #[.int .i64 5, .int .i64 A, .int .i64 Bv, .int .i64 Cv, .string tx] 40)) C Q S v2 r.taken v4 v5 s.objs on bk P R l r) := hM
  have HI : Hid (TI s r on bk c) := hI
  have HT : Hid (∃ T, Rel s l T) := hT
  obtain ⟨d0, d1, d2, d3, d4, d5⟩ := hM.cells
  have HEL := rRequestR r R (fun b => C b = 2) _ (hI.rok.ok (by omega)) hI.tw hM.rl
  have HTI : Hid (TI s r on (bk ++ [r.request]) (c + 1)) := (hI.request (by omega)).mono (by omega)
  clear hM hT hI
  go_enter Try.func10, Try.ntmps10
  go_wp2_with fail
  refine HEL.mono ?_
  rintro e w2 ⟨rfl, hb2⟩
  have m1 := HM.out.above hb2
  clear HEL hb2 HM d0 d1 d2 d3 d4 d5
  generalize r.request = X at *
  obtain ⟨x0, x1, x2, x3, x4, x5⟩ := m1.cells
  have O4 := m1.wm.own 5 (.inr (.inr rfl))
  have et : tV P R v2 r.taken v4 v5 5 = v5 := rfl
  have ex : txs s.objs on bk 5 = bk := rfl
  rw [et, ex] at O4
  obtain ⟨ax, cx, hv⟩ := owns_form O4
  obtain ⟨n, hn⟩ : ∃ n, n = bk.length := ⟨_, rfl⟩
  have HN : Hid (n = bk.length) := hn
  have HV : Hid (v5 = .slice ax n cx) := by unfold Hid; rw [hn]; exact hv
  have OW : Hid (w2.ownsRow 0 9 1 (.slice ax n cx) n (strs bk)) := by have q := O4; rw [HV.out, ← hn] at q; exact q
  have hbl : n ≤ 4398046511104 := by omega
  rw [HV.out] at x5
  have HM1 : Hid (Tm B w0 w2 _ Q S v2 r.taken v4 v5 s.objs on bk P R _ r) := m1
  have hQ1 := m1.wm.row.lt
  obtain ⟨i0, hi0, hz0, hz1, hz2⟩ := info_parts3 infoStr
  clear m1 O4 hv et ex hn
  generalize hXS : strs bk = XS at *
  have HXS : Hid (strs bk = XS) := hXS
  clear hXS
  go_wp2_with (at_builtin; refine wpList_append_own_at _ rfl _ _ 45 rfl 0 9 i0 (.string ⟨#[]⟩) 1 16 Try.underlying45 hi0 hz0 hz1 hz2 rfl (by decide) (.slice ax n cx) n XS rfl (OW.out.alloc _) ⟨w2.heap.size, 0, none⟩ 1 1 [.string X] rfl rfl Cod.one_news (by intro u hu; simp at hu; subst hu; rfl) (by unfold maxLen; omega) (by omega) (Nat.zero_le _) ?_)
  intro v' w3 hown' hgrow _ hat
  obtain ⟨ao2, co2, rfl⟩ := owns_form hown'
  have hg : w2.grownBy w3 v5.ownBlock := by rw [HV.out]; exact (World.grownBy_alloc w2 _ _).trans hgrow
  rw [← HXS.out] at hown'
  have HF : Hid (TE nn B w0 (w3.setCell ⟨Q, 5, none⟩ (.slice ao2 (n + 1) co2)) Q P R (c + 1)) := by
    obtain ⟨C5, S5, m5⟩ := HM1.out.back (x := X) (v' := .slice ao2 (n + 1) co2) (by rw [← HN.out]; exact hown') hg (fun x hx => by
      rw [HV.out]
      rcases hat with e | e
      · rw [e] at hx; exact .inl hx
      · rw [e] at hx; simp at hx; exact .inr (by omega))
    exact ⟨s, r, on, bk ++ [X], ⟨_, _, _, _, _, _, m5, HT.out, HTI.out⟩, by omega, by simp; omega, HNN.out⟩
  have R2 := HM1.out.wm.row.of_block (hg.block Q hQ1 (fun e => by have := (HM1.out.wm.gv 5 (.inr (.inr rfl)) Q e.symm).2; rw [HM1.out.wm.sq] at this; omega))
  have c2' : w3.cell? ⟨Q, 5, none⟩ = some (.slice ax n cx) := by rw [← HV.out]; exact R2.cell (by decide)
  have f2' := R2.frozen 5
  clear hown' hgrow hat R2 x0 x1 x2 x3 x4 x5 OW HM1 hg
  go_wp2
  go_ret
  exact ⟨by simp, HF.out⟩
set_option maxRecDepth 100000 in
set_option maxHeartbeats 4000000 in
theorem tripStep (kd A Bv Cv : Int) (tx : ByteArray) (a1 : -9223372036854775808 ≤ A) (a2 : A ≤ 9223372036854775807) (b1 : -9223372036854775808 ≤ Bv) (b2 : Bv ≤ 9223372036854775807) (k1 : -9223372036854775808 ≤ Cv) (k2 : Cv ≤ 9223372036854775807) (htx : tx.size ≤ maxLen) (hc : c ≤ 4398046511104) (h : TE nn B w0 w Q P R c) : Calls Try.prog 10 #[.pointer (some ⟨Q, 0, none⟩), .agg #[.int .i64 kd, .int .i64 A, .int .i64 Bv, .int .i64 Cv, .string tx]] w fun e w' => e = .returned (.bool true) ∧ TE nn B w0 w' Q P R (c + 1) := by
  by_cases n2 : kd = 2
  · exact step_next kd A Bv Cv tx a1 a2 b1 b2 k1 k2 htx hc n2 h
  · by_cases n5 : kd = 5
    · exact step_request kd A Bv Cv tx a1 a2 b1 b2 k1 k2 htx hc n5 h
    · have e2 : (kd == 2) = false := by simpa using n2
      have e5 : (kd == 5) = false := by simpa using n5
      have h1 := h.above ((Below.refl _ _).alloc (Nat.le_refl _) (.cells #[.int .i64 kd, .int .i64 A, .int .i64 Bv, .int .i64 Cv, .string tx] 40))
      have HG : Hid (TE nn B w0 (w.alloc (.cells #[.int .i64 kd, .int .i64 A, .int .i64 Bv, .int .i64 Cv, .string tx] 40)) Q P R c) := h1
      obtain ⟨s, r, on, bk, hJ, hon, hbk, hnn⟩ := h1
      have HNN : Hid (s.n = nn) := hnn
      clear hnn
      have o4 : (w.alloc (.cells #[.int .i64 kd, .int .i64 A, .int .i64 Bv, .int .i64 Cv, .string tx] 40)).cell? ⟨w.heap.size, 4, none⟩ = some (.string tx) := cell_new rfl rfl
      clear n2 n5
      by_cases k1' : kd = 1
      · subst k1'
        have HC := (tripEnqueues tx htx hJ).mono (fun e w' q => (⟨q.1, q.2.te (by omega) (by omega) (by rw [(enq_objs s tx).1]; exact HNN.out)⟩ : e = .returned (.bool true) ∧ TE nn B w0 w' Q P R (c + 1)))
        clear HG hJ e2 e5
        go_enter Try.func10, Try.ntmps10
        go_wp2_with fail
        refine HC.mono ?_
        rintro e w2 ⟨rfl, hg2⟩
        have HG2 : Hid (TE nn B w0 w2 Q P R (c + 1)) := hg2
        clear HC hg2 o4
        go_wp2
        go_ret
        exact ⟨rfl, HG2.out⟩
      · have n1 : (kd == 1) = false := by simpa using k1'
        clear k1'
        by_cases k3' : kd = 3
        · subst k3'
          have HC := comes_give A Bv Cv tx a1 a2 b1 b2 k1 k2 (by omega) hJ hon hbk HNN.out
          clear HG hJ e2 e5 n1
          go_enter Try.func10, Try.ntmps10
          go_wp2_with fail
          refine HC.mono ?_
          rintro e w2 ⟨rfl, hg2⟩
          have HG2 : Hid (TE nn B w0 w2 Q P R (c + 1)) := hg2
          clear HC hg2 o4
          go_wp2
          go_ret
          exact ⟨rfl, HG2.out⟩
        · have n3 : (kd == 3) = false := by simpa using k3'
          clear k3'
          by_cases k4' : kd = 4
          · subst k4'
            have HC := comes_spoilt A Bv Cv tx a1 a2 b1 b2 k1 k2 (by omega) hJ hon hbk HNN.out
            clear HG hJ e2 e5 n1 n3
            go_enter Try.func10, Try.ntmps10
            go_wp2_with fail
            refine HC.mono ?_
            rintro e w2 ⟨rfl, hg2⟩
            have HG2 : Hid (TE nn B w0 w2 Q P R (c + 1)) := hg2
            clear HC hg2 o4
            go_wp2
            go_ret
            exact ⟨rfl, HG2.out⟩
          · have n4 : (kd == 4) = false := by simpa using k4'
            clear k4'
            by_cases k6' : kd = 6
            · subst k6'
              have HC := comes_answer A Bv Cv tx a1 a2 b1 b2 k1 k2 (by omega) hJ hon hbk HNN.out
              clear HG hJ e2 e5 n1 n3 n4
              go_enter Try.func10, Try.ntmps10
              go_wp2_with fail
              refine HC.mono ?_
              rintro e w2 ⟨rfl, hg2⟩
              have HG2 : Hid (TE nn B w0 w2 Q P R (c + 1)) := hg2
              clear HC hg2 o4
              go_wp2
              go_ret
              exact ⟨rfl, HG2.out⟩
            · have n6 : (kd == 6) = false := by simpa using k6'
              clear k6'
              by_cases k7' : kd = 7
              · subst k7'
                have HC := comes_twisted A Bv Cv tx a1 a2 b1 b2 k1 k2 (by omega) hJ hon hbk HNN.out
                clear HG hJ e2 e5 n1 n3 n4 n6
                go_enter Try.func10, Try.ntmps10
                go_wp2_with fail
                refine HC.mono ?_
                rintro e w2 ⟨rfl, hg2⟩
                have HG2 : Hid (TE nn B w0 w2 Q P R (c + 1)) := hg2
                clear HC hg2 o4
                go_wp2
                go_ret
                exact ⟨rfl, HG2.out⟩
              · have n7 : (kd == 7) = false := by simpa using k7'
                clear k7'
                by_cases k8' : kd = 8
                · subst k8'
                  have HC := (tripTakes (by omega) hJ).mono (fun e w' q => (⟨q.1, (q.2.te hon hbk HNN.out).mono (by omega)⟩ : e = .returned (.bool true) ∧ TE nn B w0 w' Q P R (c + 1)))
                  clear HG hJ e2 e5 n1 n3 n4 n6 n7
                  go_enter Try.func10, Try.ntmps10
                  go_wp2_with fail
                  refine HC.mono ?_
                  rintro e w2 ⟨rfl, hg2⟩
                  have HG2 : Hid (TE nn B w0 w2 Q P R (c + 1)) := hg2
                  clear HC hg2 o4
                  go_wp2
                  go_ret
                  exact ⟨rfl, HG2.out⟩
                · have n8 : (kd == 8) = false := by simpa using k8'
                  clear k8'
                  have HG2 : Hid (TE nn B w0 (w.alloc (.cells #[.int .i64 kd, .int .i64 A, .int .i64 Bv, .int .i64 Cv, .string tx] 40)) Q P R (c + 1)) := HG.out.mono (by omega)
                  clear HG hJ
                  go_enter Try.func10, Try.ntmps10
                  go_wp2
                  go_ret
                  exact ⟨rfl, HG2.out⟩
end
end Sn
end Go.Proofs.Ytkgnmcekeeannab
/-
  A trip: all that the sender has to send comes, up to an end.
-/
namespace Go.Proofs.Ytkgnmcekeeannab
open Go.RowKit Go.Deep
namespace Sn
open Bs
open Ms (txt text M It Tells)
set_option linter.unusedVariables false

theorem sendN_snoc : ∀ (k : Nat) (s : St) (r : Rt), sendN (k + 1) s r = ((nxt (sendN k s r).1).1, ((sendN k s r).2.hear (nxtM (sendN k s r).1)).1)
  | 0, s, r => rfl
  | k + 1, s, r => by
    show sendN (k + 1) (nxt s).1 (r.hear (nxtM s)).1 = _
    rw [sendN_snoc k]
    rfl
/-- the first letter tells an end -/
theorem text_first {m : M} (h : Ms.ok m) : ∃ a rest, text m = a :: rest ∧ (m.kind = 3 → a = 69) ∧ (m.kind = 1 → a = 68) := by
  unfold text Ms.checked Ms.body
  rcases h with q | q | q
  · rw [if_pos q.1]
    exact ⟨_, _, rfl, fun e => by rw [q.1] at e; exact absurd e (by decide), fun _ => rfl⟩
  · rw [if_neg (by rw [q.1]; decide), if_pos q.1]
    exact ⟨_, _, rfl, fun e => by rw [q.1] at e; exact absurd e (by decide), fun e => by rw [q.1] at e; exact absurd e (by decide)⟩
  · rw [if_neg (by rw [q.1]; decide), if_neg (by rw [q.1]; decide)]
    exact ⟨_, _, rfl, fun _ => rfl, fun e => by rw [q.1] at e; exact absurd e (by decide)⟩
set_option maxHeartbeats 1000000 in
theorem isEnd_any (t : ByteArray) (a : UInt8) (rest : List UInt8) (w : World) (ht : t = txt (a :: rest)) (hz : t.size ≤ 28) :
    Calls Try.prog 21 #[.string t] w fun e w' => e = .returned (.bool (a == 69)) ∧ w' = w := by
  have h0 : 0 < t.size := by rw [ht, Ms.txt_size]; simp
  have hg : t[0] = a := by subst ht; rfl
  have HG : Hid (t[0] = a) := hg
  clear ht hg
  go_enter Try.func21, Try.ntmps21
  go_wp2_with fail
  go_ret
  refine ⟨?_, rfl⟩
  have hv : (((t[0].toNat : Nat) : Int) == 69) = (a == 69) := by
    rw [HG.out]
    by_cases e : a = 69
    · subst e; rfl
    · have h1 : (a == 69) = false := by simpa using e
      rw [h1]
      refine beq_eq_false_iff_ne.2 (fun q => e ?_)
      apply UInt8.toNat_inj.1
      show a.toNat = 69
      omega
  show Ending.returned (Value.bool _) = _
  rw [hv]
section
variable {B : Nat → Prop} {w0 w : World} {Q P R : Nat} {s : St} {r : Rt} {on bk : List ByteArray} {c : Nat}
set_option maxRecDepth 100000 in
set_option maxHeartbeats 4000000 in
theorem tripRun (most : Nat) (hm : s.left ≤ most) (hmo : most ≤ 1048576) (hc : c ≤ 4611686018424387904) (h : TJ B w0 w Q P R s r on bk c) :
    Calls Try.prog 12 #[.pointer (some ⟨Q, 0, none⟩), .int .i64 most] w fun e w' => e = .returned (.int .i64 s.left) ∧ TJ B w0 w' Q P R (sendN (s.left + 1) s r).1 (sendN (s.left + 1) s r).2 on bk (c + 2 * (s.left + 1)) := by
  have HJ : Hid (TJ B w0 w Q P R s r on bk c) := h
  clear h
  go_enter Try.func12, Try.ntmps12
  go_wp2_with fail
  go_loopw [5] (fun y wr => ∃ k : Nat, k ≤ s.left ∧ y = .int .i64 k ∧ (sendN k s r).1.left + k = s.left ∧ TJ B w0 wr Q P R (sendN k s r).1 (sendN k s r).2 on bk (c + 2 * k)) (fun y _ => s.left + 1 - (intOf y).toNat)
  case atStart => exact ⟨0, Nat.zero_le _, rfl, rfl, HJ.out⟩
  case round =>
    clear HJ
    obtain ⟨k, hk, rfl, hlk, hJ⟩ := hrel
    have HSN : Hid (sendN (k + 1) s r = ((nxt (sendN k s r).1).1, ((sendN k s r).2.hear (nxtM (sendN k s r).1)).1)) := sendN_snoc k s r
    generalize (sendN k s r).1 = sk at *
    generalize (sendN k s r).2 = rk at *
    obtain ⟨C, S, v2, v4, v5, l, hM, ⟨T, hT⟩, hI⟩ := hJ
    have HM : Hid (Tm B w0 wr C Q S v2 rk.taken v4 v5 sk.objs on bk P R l rk) := hM
    have HI : Hid (TI sk rk on bk (c + 2 * k)) := hI
    have HT : Hid (Rel sk l T) := hT
    obtain ⟨d0, d1, d2, d3, d4, d5⟩ := hM.cells
    obtain ⟨la, lc, LD, hLI⟩ := hM.sl
    have HEL := rNext l P (fun b => C b = 1) la lc LD wr (hT.ok2 hI.sok) hLI
    have hho := nxtM_honest hI.sok
    have hok := hI.ok hho
    have hlen := Ms.text_len hok
    obtain ⟨a, rest, htf, hk3, hk1⟩ := text_first hok
    obtain ⟨TX, hTX⟩ : ∃ TX, TX = (nxt sk).2 := ⟨_, rfl⟩
    have eTX : TX = txt (text (nxtM sk)) := by rw [hTX, nxt_M]
    have hTz : TX.size ≤ 28 := by rw [eTX, Ms.txt_size]; omega
    have HTX : Hid (TX = (nxt sk).2) := hTX
    have HTL : Hid (Tells TX (nxtM sk)) := by rw [eTX]; exact tells_text hok
    have HEN := fun W => isEnd_any TX a rest W (by rw [eTX, htf]) hTz
    have HI1 : TI (nxt sk).1 rk on bk (c + 2 * k + 1) := (hI.nxt).less (fun t ht => List.mem_append.2 (.inl ht)) (fun t ht => ht)
    have hho1 : Honest (nxt sk).1.n (nxt sk).1.objs (nxtM sk) := by rw [(nxt_same sk).1, (nxt_same sk).2]; exact hho
    have HH2 := HI1.hear hho1 (by omega)
    have HH0 : Hid ((rk.hear (nxtM sk)).2 = 0) := HH2.1
    have HTI : Hid (TI (nxt sk).1 (rk.hear (nxtM sk)).1 on bk (c + 2 * (k + 1))) := HH2.2
    have HRO : Hid (ROk rk) := hI.rok.ok (by omega)
    have HOB : Hid ((nxt sk).1.objs = sk.objs) := (nxt_same sk).2
    have HLF : Hid (0 < sk.left → (nxt sk).1.left + 1 = sk.left ∧ (nxtM sk).kind = 1) := fun q => nxt_left hI.sok q
    have HL0 : Hid (sk.left = 0 → nxtM sk = endM sk.objs.length ∧ (nxt sk).1 = sk) := fun q => nxtM_end hI.sok q
    have HA : Hid ((nxtM sk).kind = 3 → a = 69) := hk3
    have HA1 : Hid ((nxtM sk).kind = 1 → a = 68) := hk1
    have hkm : k ≤ most := by omega
    clear hM hT hI hLI hho hho1 hok hlen htf hTX eTX HI1 HH2 hk3 hk1
    go_wp2_with fail
    refine HEL.mono ?_
    rintro e w2 ⟨l1, ho, hl2, t2⟩
    obtain ⟨rfl, T', hT'⟩ := HT.out.nxt HI.out.sok ho
    have HT' : Hid (∃ T, Rel (nxt sk).1 l1 T) := ⟨T', hT'⟩
    have m1 := HM.out.send t2 (LndAt.mono ⟨la, lc, LD, hl2⟩ (fun b hb _ => .inl hb))
    obtain ⟨x0, x1, x2, x3, x4, x5⟩ := m1.cells
    have HM1 : Hid (Tm B w0 w2 (paint C 1 wr.heap.size) Q S v2 rk.taken v4 v5 sk.objs on bk P R l1 rk) := m1
    have HH := rHearR rk TX R (fun b => paint C 1 wr.heap.size b = 2) w2 (by omega) HRO.out m1.rl
    clear HEL hl2 t2 HM d0 d1 d2 d3 d4 d5 ho hT' m1
    rw [← HTX.out]
    go_wp2_with fail
    refine HH.mono ?_
    rintro e w3 ⟨ho, t3⟩
    rcases ho with ⟨m', h5, rfl, hl3⟩ | ⟨h5, _, _⟩
    · have em : m' = nxtM sk := by rw [← Ms.tells_lan h5, Ms.tells_lan HTL.out]
      subst em
      rw [HH0.out]
      have HF : Hid (TJ B w0 w3 Q P R (nxt sk).1 (rk.hear (nxtM sk)).1 on bk (c + 2 * (k + 1))) := by
        have m2 := HM1.out.recv t3 hl3
        rw [← (hear_n rk (nxtM sk)).2, ← HOB.out] at m2
        exact ⟨_, _, _, _, _, _, m2, HT'.out, HTI.out⟩
      clear HH hl3 t3 h5 HM1 x0 x1 x2 x3 x4 x5
      by_cases h0 : 0 < sk.left
      · obtain ⟨q1, q2⟩ := HLF.out h0
        have ha : (a == 69) = false := by rw [HA1.out q2]; rfl
        rw [ha] at HEN
        clear ha q2
        go_wp2_with fail
        refine (HEN w3).mono ?_
        rintro e w4 ⟨rfl, rfl⟩
        clear HEN
        go_wp2
        go_roundw
        case rel =>
          refine ⟨k + 1, by omega, by go_num, ?_, ?_⟩
          · rw [HSN.out]; show (nxt sk).1.left + (k + 1) = s.left; omega
          · rw [HSN.out]; exact HF.out
        case measure => simp [intOf]; omega
      · have h00 : sk.left = 0 := by omega
        have ha : (a == 69) = true := by rw [HA.out (by rw [(HL0.out h00).1]; rfl)]; rfl
        rw [ha] at HEN
        clear ha
        go_wp2_with fail
        refine (HEN w3).mono ?_
        rintro e w4 ⟨rfl, rfl⟩
        clear HEN
        have hkl : k = s.left := by omega
        have HK : Hid (k = s.left) := hkl
        clear hkl
        go_wp2
        go_ret
        refine ⟨by rw [← HK.out]; rfl, ?_⟩
        rw [← HK.out, HSN.out]
        exact HF.out
    · exact absurd HTL.out (h5 _)
end
end Sn
end Go.Proofs.Ytkgnmcekeeannab
