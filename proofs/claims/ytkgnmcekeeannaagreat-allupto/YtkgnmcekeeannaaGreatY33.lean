import Derived.Test.YtkgnmcekeeannaaGreatY32
/-
  The reference's receiver: Hear whole; what has come of a block.
-/
namespace Go.Proofs.YtkgnmcekeeannaaGreat
open Go.RowKit Go.Deep
namespace Sn
open Bs
open Ms (txt text ok M It mV mVm mBox mRow mRow_new itF itOK ItemsAt Tells ReadOut refRead owns_setCell owns_items icells)
set_option linter.unusedVariables false

theorem refHearR (r : Rt) (tx : ByteArray) (P : Nat) (F : Nat → Prop) (w : World) (ht : tx.size ≤ 1048576) (hA : RcvAt w P r F) (hn : r.n.ok) (hkn : r.known ≤ 4611686018427387904) (hhl : r.heard.length ≤ 1048576) :
    Calls Tryz.prog 32 #[.pointer (some ⟨P, 0, none⟩), .string tx] w fun e w' => HearOutR r tx e w w' P F ∧ Touch w w' F := by
  by_cases h : ∃ m, Tells tx m ∧ m.kind = 1
  · obtain ⟨m, h1, h2⟩ := h
    by_cases hg : (r.hear m).2 = 0
    · exact refHearR_taken r tx P F w ht hA hn m h1 h2 hg hkn hhl
    · exact refHearR_refused r tx P F w ht hA hn m h1 h2 hg hkn hhl
  · exact refHearR_rest r tx P F w ht hA (fun m h1 h2 => h ⟨m, h1, h2⟩) hkn
/-- what always holds of a receiver -/
structure ROk (r : Rt) : Prop where
  nok : r.n.ok
  kn : r.known ≤ 8
  hl : r.heard.length ≤ 1048576
  hd : ∀ m ∈ r.heard, m.kind = 1 ∧ Ms.dataOK m ∧ m.sym.size = r.n.size
theorem lenIn_nat {l : List M} (h : ∀ m ∈ l, 0 ≤ m.len ∧ m.len ≤ 256) (o : Int) : 0 ≤ lenIn l o ∧ lenIn l o ≤ 256 := by
  induction l with
  | nil => exact ⟨Int.le_refl _, by show (0 : Int) ≤ 256; decide⟩
  | cons m l ih =>
    unfold lenIn
    split
    · exact h m (by simp)
    · exact ih (fun x hx => h x (by simp [hx]))
theorem ROk.len {r : Rt} (h : ROk r) (o : Nat) : lenIn r.heard o = (r.len o : Int) ∧ r.len o ≤ 256 := by
  have := lenIn_nat (l := r.heard) (fun m hm => by
    obtain ⟨_, hd, _⟩ := h.hd m hm
    obtain ⟨q1, q2, q3, q4, q5, q6, q7, q8, _⟩ := hd
    exact ⟨by omega, q8⟩) (o : Int)
  unfold Rt.len
  omega
theorem comeIn_drop (o b : Int) (k : Nat) (acc l : List M) (i : Nat) (h : i < l.length) (hk : acc.length < k) (x0 : M) : comeIn o b k acc (l.drop i) = if fresh1 o b acc (l.getD i x0) then comeIn o b k (acc ++ [l.getD i x0]) (l.drop (i + 1)) else comeIn o b k acc (l.drop (i + 1)) := by
  have e : l.getD i x0 = l[i] := by simp [List.getD_eq_getElem?_getD, h]
  rw [List.drop_eq_getElem_cons h, e]
  show (if k ≤ acc.length then acc else _) = _
  rw [if_neg (by omega)]
theorem comeIn_full (o b : Int) (k : Nat) (acc l : List M) (h : k ≤ acc.length) : comeIn o b k acc l = acc := by
  cases l with
  | nil => rfl
  | cons m l => show (if k ≤ acc.length then acc else _) = _; rw [if_pos h]
theorem symsOf_app (l : List M) (m : M) : txt (symsOf (l ++ [m])) = txt (symsOf l) ++ m.sym := by
  have e : symsOf (l ++ [m]) = symsOf l ++ m.sym.data.toList := by simp [symsOf]
  rw [e, ← Ms.txt_append, Ms.txt_of]
theorem symsOf_size (l : List M) (h : ∀ m ∈ l, m.sym.size ≤ 16) : (txt (symsOf l)).size ≤ 16 * l.length := by
  induction l with
  | nil => simp [symsOf, txt, ByteArray.size]
  | cons m l ih =>
    have h1 := h m (by simp)
    have h2 := ih (fun x hx => h x (by simp [hx]))
    rw [Ms.txt_size] at h2 ⊢
    have e : (symsOf (m :: l)).length = m.sym.size + (symsOf l).length := by simp [symsOf]
    rw [e, List.length_cons]; omega
theorem cell_lt {w : World} {b j : Nat} {v : Value} (h : w.cell? ⟨b, j, none⟩ = some v) : b < w.heap.size := by
  unfold World.cell? at h
  by_cases e : b < w.heap.size
  · exact e
  · have hn : w.heap[b]? = none := by simp; omega
    simp only [hn] at h
    cases h
theorem owns_cells {w : World} {base e n : Nat} {v : Value} {xs : List Value} (h : w.ownsRow base e 1 v n xs) (h0 : 0 < n) : ∃ g cap, v = .slice (some ⟨g, 0, none⟩) n cap ∧ ∀ j x, xs[j]? = some x → w.cell? ⟨g, j, none⟩ = some x := by
  rcases h.2 with ⟨_, e⟩ | ⟨g, cap, cur, e, _⟩
  · omega
  · subst e
    have hc := h.cells (g := g) rfl
    exact ⟨g, cap, rfl, fun j x hx => by have := hc j x hx; rw [add_eq0] at this; exact this⟩
def nums (l : List M) : List Value := l.map (fun m => .int .i64 m.num)
set_option maxRecDepth 100000 in
set_option maxHeartbeats 4000000 in
theorem refCome (r : Rt) (o b : Nat) (P : Nat) (F : Nat → Prop) (w : World) (hr : ROk r) (hA : RcvAt w P r F) (ho : o ≤ 65536) (hb : b ≤ 255) :
    Calls Tryz.prog 47 #[.pointer (some ⟨P, 0, none⟩), .int .i64 o, .int .i64 b] w fun e w' => ∃ v, e = .returned (.tuple #[v, .string (txt (symsOf (r.come o b)))]) ∧ w'.ownsRow w.heap.size 3 1 v (r.come o b).length (nums (r.come o b)) ∧ Below w.heap.size w w' := by
  obtain ⟨hs, ah, ch, hh, hI⟩ := hA
  have HI0 : Hid (RI w w P r.n hs r.known r.taken F ah ch) := hI
  obtain ⟨wd, hwd⟩ : ∃ wd, wd = w.drew := ⟨_, rfl⟩
  have BD : Below w.heap.size w wd := by rw [hwd]; exact (Below.refl _ _).drew
  have hId : RI w wd P r.n hs r.known r.taken F ah ch := by rw [hwd]; exact hI.below (Below.refl _ _).drew
  have hzd : wd.heap.size = w.heap.size := by rw [hwd]; rfl
  have x0 : wd.cell? ⟨P, 0, none⟩ = some (.int .i64 r.n.size) := hId.row.cell (by decide)
  have x1 : wd.cell? ⟨P, 1, none⟩ = some (.int .i64 r.n.block) := hId.row.cell (by decide)
  have x2 : wd.cell? ⟨P, 2, none⟩ = some (.int .i64 r.n.spare) := hId.row.cell (by decide)
  obtain ⟨eln, hln⟩ := hr.len o
  have hl := hr.hl
  have HLEN := refLength (o : Int) hId.here (by rw [← List.length_map (f := Hm.m), hh]; omega)
  rw [hh, eln] at HLEN
  have HMA := many_any r.n (r.len o) b wd hr.nok (by omega) (by omega)
  have hM := many_le r.n (r.len o) b
  have hb8 := hr.nok.2.2.2.1
  have HC : Hid (r.come o b = comeIn o b (r.n.many (r.len o) b) [] r.heard) := rfl
  have HI : Hid (RI w wd P r.n hs r.known r.taken F ah ch) := hId
  have HH : Hid (hs.map Hm.m = r.heard) := hh
  have HR : Hid (ROk r) := hr
  generalize r.come o b = CM at *
  generalize r.n.many (r.len o) b = k at *
  generalize r.len o = LN at *
  simp only [nmV] at HMA
  clear hI hId hh hr
  go_enter Tryz.func47, Tryz.ntmps47
  go_wp2_with fail
  refine wp_region_still_tail 8 (by kernel_rfl) (by kernel_rfl) ?_
  change wpStill _ _ (World.drew _) (fun a' => wpList _ _ _ _ a' (World.drew _)) _ _
  simp only [← hwd]
  clear hwd
  simp only [List.take_succ_cons, List.take_zero, List.drop_succ_cons, List.drop_zero]
  still_step
  still_step
  still_step
  still_step
  still_step
  still_step
  still_call HLEN
  still_step
  refine wpStill_nil ?_
  go_wp2_with fail
  refine HMA.mono ?_
  rintro e w1 ⟨rfl, hb1⟩
  have B1 := BD.trans (hb1.mono (by omega))
  have HI1 : Hid (RI w w1 P r.n hs r.known r.taken F ah ch) := HI.out.below hb1
  clear HMA HLEN hb1 BD HI x0 x1 x2 hzd
  obtain ⟨L, hL⟩ : ∃ L, L = hs.length := ⟨_, rfl⟩
  have HL : Hid (L = hs.length) := hL
  have hL2 : L ≤ 1048576 := by rw [hL, ← List.length_map (f := Hm.m), HH.out]; exact hl
  clear hL
  go_wp2
  go_loopw [9, 10, 11] (fun v s x wr => ∃ (i : Nat) (acc : List M) (av : Option Addr) (cv : Nat), i ≤ L ∧ x = .int .i64 i ∧ acc.length ≤ k ∧ comeIn o b k acc (r.heard.drop i) = CM ∧ (∀ m ∈ acc, m.sym.size ≤ 16) ∧ v = .slice av acc.length cv ∧ wr.ownsRow w.heap.size 3 1 (.slice av acc.length cv) acc.length (nums acc) ∧ s = .string (txt (symsOf acc)) ∧ RI w wr P r.n hs r.known r.taken F ah ch ∧ Below w.heap.size w wr) (fun _ _ x _ => L - (intOf x).toNat)
  case atStart => exact ⟨0, [], none, 0, Nat.zero_le _, rfl, Nat.zero_le _, HC.out.symm, by simp, rfl, World.ownsRow_nil _ _ _ _, rfl, HI1.out, B1⟩
  case round =>
    clear HI1 B1
    obtain ⟨i, acc, av, cv, hi, rfl, hak, hcm, hsy, rfl, hown, rfl, hI, hB⟩ := hrel
    have HI : Hid (RI w wr P r.n hs r.known r.taken F ah ch) := hI
    have HCM : Hid (comeIn o b k acc (r.heard.drop i) = CM) := hcm
    have HSY : Hid (∀ m ∈ acc, m.sym.size ≤ 16) := hsy
    have HOW : Hid (wr.ownsRow w.heap.size 3 1 (.slice av acc.length cv) acc.length (nums acc)) := hown
    have c3 : wr.cell? ⟨P, 3, none⟩ = some (.slice ah L ch) := by rw [HL.out]; exact hI.row.cell (by decide)
    have hsz := symsOf_size acc hsy
    obtain ⟨A, hA⟩ : ∃ A, A = acc.length := ⟨_, rfl⟩
    have HA : Hid (A = acc.length) := hA
    rw [← hA] at hak HOW hsz ⊢
    clear hA hI hcm hsy hown
    by_cases hlt : i < L ∧ A < k
    · obtain ⟨hi1, hk1⟩ := hlt
      obtain ⟨g, rfl, hg, hgP, hc⟩ := HI.out.heard_at (by rw [← HL.out]; omega)
      have q : ∀ r v, r < 8 → (hv (hs.getD i h0))[r]? = some v → wr.cell? ⟨g, i * 8 + r, none⟩ = some v := hc i (by rw [← HL.out]; exact hi1)
      have em : (hs.map Hm.m).getD i h0.m = (hs.getD i h0).m := by
        have : i < hs.length := by rw [← HL.out]; exact hi1
        simp [List.getD_eq_getElem?_getD, this]
      have hd := comeIn_drop o b k acc r.heard i (by rw [← HH.out, List.length_map, ← HL.out]; exact hi1) (by rw [← HA.out]; exact hk1) h0.m
      rw [← HH.out, em] at hd
      rw [HH.out] at hd
      have hmem : (hs.getD i h0).m ∈ r.heard := by
        rw [← em, HH.out]
        have : i < r.heard.length := by rw [← HH.out, List.length_map, ← HL.out]; exact hi1
        rw [List.getD_eq_getElem?_getD, List.getElem?_eq_getElem this]
        exact List.getElem_mem this
      have hmd := HR.out.hd _ hmem
      have q0 := q 0 _ (by decide) rfl
      have q1 := q 1 _ (by decide) rfl
      have q2 := q 2 _ (by decide) rfl
      have q3 := q 3 _ (by decide) rfl
      have q4 := q 4 _ (by decide) rfl
      have q5 := q 5 _ (by decide) rfl
      have q6 := q 6 _ (by decide) rfl
      have q7 := q 7 _ (by decide) rfl
      rw [Nat.add_zero] at q0
      rw [show (hs.getD i h0).v = .slice (hs.getD i h0).a (hs.getD i h0).n (hs.getD i h0).c from rfl] at q6
      generalize (hs.getD i h0).a = xa at *
      generalize (hs.getD i h0).n = xn at *
      generalize (hs.getD i h0).c = xc at *
      generalize (hs.getD i h0).m = x at *
      have HF : Hid (CM = if fresh1 o b acc x then comeIn o b k (acc ++ [x]) (r.heard.drop (i + 1)) else comeIn o b k acc (r.heard.drop (i + 1))) := by unfold Hid; rw [← HCM.out]; exact hd
      have hx16 : x.sym.size ≤ 16 := by have := hmd.2.2; have := HR.out.nok.2.1; omega
      have BW : Below wr.heap.size wr (wr.alloc (.cells #[.int .i64 x.kind, .int .i64 x.obj, .int .i64 x.blk, .int .i64 x.num, .int .i64 x.len, .string x.sym, .slice xa xn xc, .int .i64 x.objs] 99)) := (Below.refl _ _).alloc (Nat.le_refl _) _
      have HIW : Hid (RI w (wr.alloc (.cells #[.int .i64 x.kind, .int .i64 x.obj, .int .i64 x.blk, .int .i64 x.num, .int .i64 x.len, .string x.sym, .slice xa xn xc, .int .i64 x.objs] 99)) P r.n hs r.known r.taken F (some ⟨g, 0, none⟩) ch) := HI.out.below BW
      have HOWW : Hid ((wr.alloc (.cells #[.int .i64 x.kind, .int .i64 x.obj, .int .i64 x.blk, .int .i64 x.num, .int .i64 x.len, .string x.sym, .slice xa xn xc, .int .i64 x.objs] 99)).ownsRow w.heap.size 3 1 (.slice av A cv) A (nums acc)) := HOW.out.alloc _
      have HBW : Hid (Below w.heap.size w (wr.alloc (.cells #[.int .i64 x.kind, .int .i64 x.obj, .int .i64 x.blk, .int .i64 x.num, .int .i64 x.len, .string x.sym, .slice xa xn xc, .int .i64 x.objs] 99))) := hB.alloc hB.size _
      have XB : Hid (∀ j v, ([.int .i64 x.kind, .int .i64 x.obj, .int .i64 x.blk, .int .i64 x.num, .int .i64 x.len, .string x.sym, .slice xa xn xc, .int .i64 x.objs] : List Value)[j]? = some v → (wr.alloc (.cells #[.int .i64 x.kind, .int .i64 x.obj, .int .i64 x.blk, .int .i64 x.num, .int .i64 x.len, .string x.sym, .slice xa xn xc, .int .i64 x.objs] 99)).cell? ⟨wr.heap.size, j, none⟩ = some v) := fun j v hv => cell_new rfl (by simpa using hv)
      have hXo : (Value.slice av A cv).ownBlock ≠ some wr.heap.size := fun e => by have := (HOW.out.lt _ e).2; omega
      clear hd hmd hmem em q hc HI HOW HCM hg hgP BW
      obtain ⟨W, hW⟩ : ∃ W, W = wr.alloc (.cells #[.int .i64 x.kind, .int .i64 x.obj, .int .i64 x.blk, .int .i64 x.num, .int .i64 x.len, .string x.sym, .slice xa xn xc, .int .i64 x.objs] 99) := ⟨_, rfl⟩
      rw [← hW] at HIW HOWW HBW XB
      go_wp2
      simp only [← hW]
      clear hW q0 q1 q2 q3 q4 q5 q6 q7 c3 hB
      obtain ⟨X, hX⟩ : ∃ X, X = wr.heap.size := ⟨_, rfl⟩
      have hX' : wr.heap.size = X := hX.symm
      simp only [hX'] at *
      clear hX hX'
      go_loopw [13, 14] (fun ov jv w' => ∃ j : Nat, j ≤ A ∧ jv = .int .i64 j ∧ ov = .bool ((acc.take j).any (fun y => decide (y.num = x.num))) ∧ ∃ q, w' = W.drewN q) (fun _ jv _ => A - (intOf jv).toNat)
      case atStart => exact ⟨0, Nat.zero_le _, rfl, by simp, 0, rfl⟩
      case round =>
        obtain ⟨j, hj, rfl, rfl, q, hq⟩ := hrel
        have HQ : Hid (∃ q, wr = W.drewN q) := ⟨q, hq⟩
        have x3 : wr.cell? ⟨X, 3, none⟩ = some (.int .i64 x.num) := by rw [hq]; exact cell_drawn (XB.out 3 _ rfl)
        have HAT : Hid (∀ j, j < A → ∃ ga, av = some ⟨ga, 0, none⟩ ∧ wr.cell? ⟨ga, j, none⟩ = some (.int .i64 (acc.getD j h0.m).num)) := fun j hj => by
          obtain ⟨ga, ca, e, hc⟩ := owns_cells HOWW.out (by omega)
          simp only [Value.slice.injEq] at e
          refine ⟨ga, e.1, ?_⟩
          rw [hq]
          refine cell_drawn (hc j _ ?_)
          have : j < acc.length := by rw [← HA.out]; exact hj
          simp [nums, List.getD_eq_getElem?_getD, this]
        obtain ⟨Bj, hBj⟩ : ∃ B, B = (acc.take j).any (fun y => decide (y.num = x.num)) := ⟨_, rfl⟩
        have HBj : Hid (Bj = (acc.take j).any (fun y => decide (y.num = x.num))) := hBj
        rw [← hBj]
        clear hBj hq
        by_cases hlj : j < A
        · obtain ⟨ga, rfl, hga⟩ := HAT.out j hlj
          have HBS : Hid ((acc.take (j + 1)).any (fun y => decide (y.num = x.num)) = (Bj || decide ((acc.getD j h0.m).num = x.num))) := by
            unfold Hid
            have hja : j < acc.length := by rw [← HA.out]; exact hlj
            rw [List.take_add_one, List.any_append, HBj.out]
            simp [hja, List.getD_eq_getElem?_getD]
          generalize (acc.getD j h0.m).num = y at *
          cases Bj with
          | true =>
            go_wp2_with fail
            go_quiet (fail)
            go_wp2
            go_roundw
            case rel => exact ⟨j + 1, by omega, by go_num, by rw [HBS.out]; rfl, drawn_more HQ.out⟩
            case measure => simp [intOf]; omega
          | false =>
            obtain ⟨E, hE⟩ : ∃ E : Bool, E = decide (y = x.num) := ⟨_, rfl⟩
            have tE : (y == x.num) = E := by rw [hE]; rfl
            have HE : Hid (E = decide (y = x.num)) := hE
            clear hE
            go_wp2_with fail
            go_quiet (fail)
            go_wp2
            go_roundw
            case rel => exact ⟨j + 1, by omega, by go_num, by rw [HBS.out, ← HE.out]; simp, drawn_more HQ.out⟩
            case measure => simp [intOf]; omega
        · have e : j = A := by omega
          subst e
          have HOLD : Hid (Bj = acc.any (fun y => decide (y.num = x.num))) := by
            unfold Hid; rw [HBj.out, HA.out, List.take_length]
          have HI2 : Hid (RI w wr P r.n hs r.known r.taken F (some ⟨g, 0, none⟩) ch) := by obtain ⟨q, hq⟩ := HQ.out; unfold Hid; rw [hq]; exact HIW.out.below (below_drewN (Below.refl _ _) q)
          have HO2 : Hid (wr.ownsRow w.heap.size 3 1 (.slice av j cv) j (nums acc)) := by obtain ⟨q, hq⟩ := HQ.out; unfold Hid; rw [hq]; exact Ms.owns_below HOWW.out (below_drewN (Below.refl _ _) q)
          have HB2 : Hid (Below w.heap.size w wr) := by obtain ⟨q, hq⟩ := HQ.out; unfold Hid; rw [hq]; exact below_drewN HBW.out q
          have hXl : X < wr.heap.size := cell_lt x3
          have x1 : wr.cell? ⟨X, 1, none⟩ = some (.int .i64 x.obj) := by obtain ⟨q, hq⟩ := HQ.out; rw [hq]; exact cell_drawn (XB.out 1 _ rfl)
          have x2 : wr.cell? ⟨X, 2, none⟩ = some (.int .i64 x.blk) := by obtain ⟨q, hq⟩ := HQ.out; rw [hq]; exact cell_drawn (XB.out 2 _ rfl)
          have x5 : wr.cell? ⟨X, 5, none⟩ = some (.string x.sym) := by obtain ⟨q, hq⟩ := HQ.out; rw [hq]; exact cell_drawn (XB.out 5 _ rfl)
          clear HAT HBj HQ hlj
          have NF : ¬ (x.obj = o ∧ x.blk = b ∧ Bj = false) → Hid (comeIn o b k acc (r.heard.drop (i + 1)) = CM) := fun h => by
            unfold Hid
            rw [HF.out, if_neg]
            intro hf
            unfold fresh1 at hf
            simp only [Bool.and_eq_true, decide_eq_true_eq] at hf
            refine h ⟨hf.1.1, hf.1.2, ?_⟩
            rw [HOLD.out]
            rw [List.all_eq_true] at hf
            rw [List.any_eq_false]
            intro y hy
            have := hf.2 y hy
            simpa using this
          have HNFN : Hid (¬ (x.obj = o ∧ x.blk = b ∧ Bj = false) → Hid (comeIn o b k acc (r.heard.drop (i + 1)) = CM)) := NF
          clear NF
          by_cases c1 : x.obj = o
          · have t1 : (x.obj == (o : Int)) = true := by simp [c1]
            by_cases c2 : x.blk = b
            · have t2 : (x.blk == (b : Int)) = true := by simp [c2]
              cases Bj with
              | true =>
                have HNF := HNFN.out (fun h => by cases h.2.2)
                clear c1 c2
                go_wp2
                go_roundw
                case rel =>
                  have HX := HNF.out
                  rw [HA.out] at HO2 ⊢
                  exact ⟨i + 1, acc, av, cv, by omega, by go_num, by rw [← HA.out]; exact hak, HX, HSY.out, rfl, HO2.out, rfl, HI2.out, HB2.out⟩
                case measure => simp [intOf]; omega
              | false =>
                have HFR : Hid (comeIn o b k (acc ++ [x]) (r.heard.drop (i + 1)) = CM) := by
                  unfold Hid
                  rw [HF.out, if_pos]
                  unfold fresh1
                  simp only [Bool.and_eq_true, decide_eq_true_eq]
                  refine ⟨⟨c1, c2⟩, ?_⟩
                  have hno := HOLD.out.symm
                  rw [List.any_eq_false] at hno
                  rw [List.all_eq_true]
                  intro y hy
                  have := hno y hy
                  simpa using this
                have HS2 : Hid (∀ m ∈ acc ++ [x], m.sym.size ≤ 16) := fun m hm => by
                  rcases List.mem_append.1 hm with h | h
                  · exact HSY.out m h
                  · rw [List.mem_singleton.1 h]; exact hx16
                obtain ⟨TX, hTX⟩ : ∃ T, T = txt (symsOf acc) := ⟨_, rfl⟩
                have HTX : Hid (TX ++ x.sym = txt (symsOf (acc ++ [x]))) := by unfold Hid; rw [symsOf_app, hTX]
                rw [← hTX] at hsz ⊢
                have hadd : ∀ W, (Op.stringOp .add TX x.sym).run Tryz.prog W = .ok (.string (TX ++ x.sym)) W := fun W => run_string_add_sum W _ _ (by omega)
                have HXN : Hid (nums acc ++ [.int .i64 x.num] = nums (acc ++ [x])) := by simp [Hid, nums]
                generalize nums acc = XS at *
                obtain ⟨i0, hi0, hz0, hz1, hz2⟩ := info_parts3 Cod.infoInt
                clear c1 c2 hTX
                go_wp2_with (at_builtin; refine wpList_append_own _ rfl _ _ 105 rfl w.heap.size 3 i0 (.int .i64 0) 1 8 Tryz.underlying105 hi0 hz0 hz1 hz2 rfl (by decide) _ _ _ rfl (HO2.out.alloc _) ⟨wr.heap.size, 0, none⟩ 1 1 [.int .i64 x.num] rfl rfl Cod.one_news ?c2 ?c3 ?c4 ?c5 ?_)
                case c2 => first | rfl | (intro u hu; simp at hu; subst hu; rfl)
                case c3 => unfold maxLen; omega
                case c4 => omega
                case c5 => have := HB2.out.size; simp; omega
                · intro v' w3 hown' hgrow _
                  obtain ⟨av2, cv2, rfl⟩ := owns_form hown'
                  have hb3 := Cod.below_append HB2.out HB2.out.size HO2.out hgrow
                  have x5' : w3.cell? ⟨X, 5, none⟩ = some (.string x.sym) := App.cells_stay hgrow hXl hXo x5 rfl
                  rw [HXN.out] at hown'
                  have HO3 : Hid (w3.ownsRow w.heap.size 3 1 (.slice av2 (j + 1) cv2) (j + 1) (nums (acc ++ [x]))) := hown'
                  have HI3 : Hid (RI w w3 P r.n hs r.known r.taken F (some ⟨g, 0, none⟩) ch) := HI0.out.below hb3
                  clear hown' hgrow x1 x2 x3 x5 HO2 HI2 HB2
                  go_wp2
                  go_roundw
                  case rel =>
                    have hl2 : (acc ++ [x]).length = j + 1 := by rw [List.length_append, ← HA.out]; rfl
                    refine ⟨i + 1, acc ++ [x], av2, cv2, by omega, by go_num, by rw [hl2]; omega, HFR.out, HS2.out, ?_, ?_, by rw [← HTX.out], HI3.out, hb3⟩
                    · rw [hl2]
                    · rw [hl2]; exact HO3.out
                  case measure => simp [intOf]; omega
            · have t2 : (x.blk == (b : Int)) = false := by simpa using c2
              have HNF := HNFN.out (fun h => c2 h.2.1)
              clear c1 c2
              go_wp2
              go_roundw
              case rel =>
                have HX := HNF.out
                rw [HA.out] at HO2 ⊢
                exact ⟨i + 1, acc, av, cv, by omega, by go_num, by rw [← HA.out]; exact hak, HX, HSY.out, rfl, HO2.out, rfl, HI2.out, HB2.out⟩
              case measure => simp [intOf]; omega
          · have t1 : (x.obj == (o : Int)) = false := by simpa using c1
            have HNF := HNFN.out (fun h => c1 h.1)
            clear c1
            go_wp2
            go_roundw
            case rel =>
              have HX := HNF.out
              rw [HA.out] at HO2 ⊢
              exact ⟨i + 1, acc, av, cv, by omega, by go_num, by rw [← HA.out]; exact hak, HX, HSY.out, rfl, HO2.out, rfl, HI2.out, HB2.out⟩
            case measure => simp [intOf]; omega
    · have hend : CM = acc := by
        rw [← HCM.out]
        by_cases e : A < k
        · have : i = L := by omega
          rw [this, HL.out, ← List.length_map (f := Hm.m), HH.out, List.drop_length]; rfl
        · exact comeIn_full _ _ _ _ _ (by rw [← HA.out]; omega)
      have hex : (L : Int) ≤ (i : Int) ∨ ((i : Int) < (L : Int) ∧ (k : Int) ≤ (A : Int)) := by omega
      have HEND : Hid (CM = acc) := hend
      clear hend hlt
      rcases hex with h1 | ⟨h1, h2⟩
      all_goals
        go_wp2
        go_ret2
        rw [HEND.out]
        rw [HA.out] at HOW ⊢
        exact ⟨_, rfl, HOW.out, hB⟩
end Sn
end Go.Proofs.YtkgnmcekeeannaaGreat
