import Derived.Test.YtkgnmcekeeannaaGreatY38
import Derived.Laws.AppendOwnNone
import Derived.Test.YtkgnmcekeeannaaGreatY18
/-
  The reference's receiver: Request.
-/
namespace Go.Proofs.YtkgnmcekeeannaaGreat
open Go.RowKit Go.Deep
namespace Sn
open Bs
open Ms (txt text ok M It mV mVm mBox mRow mRow_new itF itOK ItemsAt Tells ReadOut refRead refWrite owns_setCell owns_items icells icell icells_succ icells_congr)
set_option linter.unusedVariables false

def itsTo (r : Rt) (j : Nat) : List It := (List.range j).flatMap r.lacks
theorem itsTo_succ (r : Rt) (j : Nat) : itsTo r (j + 1) = itsTo r j ++ r.lacks j := by
  unfold itsTo
  rw [List.range_succ, List.flatMap_append]; simp
theorem icells_many (a b : List It) : icells (itF (a ++ b)) (a.length + b.length) = icells (itF a) a.length ++ icells (itF b) b.length := by
  induction b generalizing a with
  | nil => simp [icells]
  | cons t b ih =>
    have e1 : a ++ t :: b = (a ++ [t]) ++ b := by simp
    have e2 : a.length + (t :: b).length = (a ++ [t]).length + b.length := by simp; omega
    have e3 : (a ++ [t]).length = a.length + 1 := by simp
    have h1 := ih [t]
    have h2 := icells_app [] t
    simp only [List.nil_append, List.length_nil, Nat.zero_add] at h2
    have e4 : (t :: b).length = [t].length + b.length := by simp; omega
    have e5 : t :: b = [t] ++ b := rfl
    rw [e2, e1, ih (a ++ [t]), e3, icells_app a t, List.append_assoc]
    congr 1
    rw [e4]
    show _ = icells (itF ([t] ++ b)) _
    rw [h1]
    show _ = icells (itF [t]) 1 ++ _
    rw [h2]
    simp [icells]
theorem lacks_len (r : Rt) (hr : ROk r) (o : Nat) : (r.lacks o).length ≤ 256 := by
  rw [lacks_eq]
  split
  · simp
  · have := lackTo_len r o (r.n.blocks (r.len o))
    have := blocks_le r.n hr.nok (r.len o) (hr.len o).2
    omega
theorem itsTo_len (r : Rt) (hr : ROk r) (j : Nat) : (itsTo r j).length ≤ 256 * j := by
  induction j with
  | zero => simp [itsTo]
  | succ j ih => rw [itsTo_succ, List.length_append]; have := lacks_len r hr j; omega
theorem lacks_ok (r : Rt) (hr : ROk r) (o : Nat) (ho : o ≤ 7) : ∀ t ∈ r.lacks o, itOK t := by
  intro t ht
  rw [lacks_eq] at ht
  split at ht
  · rw [List.mem_singleton.1 ht]
    exact ⟨by show (0 : Int) ≤ o; omega, by show (o : Int) ≤ 7; omega, by show (0 : Int) ≤ 0; decide, by show (0 : Int) ≤ 255; decide, by show (0 : Int) ≤ 0; decide, by show (0 : Int) ≤ 8; decide⟩
  · unfold lackTo at ht
    obtain ⟨b, hb, e⟩ := List.mem_filterMap.1 ht
    rw [List.mem_range] at hb
    have hbl := blocks_le r.n hr.nok (r.len o) (hr.len o).2
    have hm := many_le r.n (r.len o) b
    have hb8 := hr.nok.2.2.2.1
    unfold lackOf at e
    split at e
    · simp only [Option.some.injEq] at e
      subst e
      exact ⟨by show (0 : Int) ≤ o; omega, by show (o : Int) ≤ 7; omega, by show (0 : Int) ≤ b; omega, by show (b : Int) ≤ 255; omega, by show (0 : Int) ≤ ((_ : Nat) : Int); omega, by show (((_ : Nat)) : Int) ≤ 8; omega⟩
    · cases e
theorem items_ok (r : Rt) (hr : ROk r) : ∀ t ∈ r.items, itOK t := by
  intro t ht
  unfold Rt.items at ht
  obtain ⟨o, ho, h⟩ := List.mem_flatMap.1 ht
  rw [List.mem_range] at ho
  have := hr.kn
  exact lacks_ok r hr o (by omega) t h
set_option maxRecDepth 100000 in
set_option maxHeartbeats 4000000 in
theorem refRequest (r : Rt) (P : Nat) (F : Nat → Prop) (w : World) (hr : ROk r) (hA : RcvAt w P r F) :
    Calls Tryz.prog 30 #[.pointer (some ⟨P, 0, none⟩)] w fun e w' => e = .returned (.string r.request) ∧ Below w.heap.size w w' := by
  have HA : Hid (RcvAt w P r F) := hA
  obtain ⟨hs, ah, ch, hh, hI⟩ := hA
  have HI : Hid (RI w w P r.n hs r.known r.taken F ah ch) := hI
  have HR : Hid (ROk r) := hr
  have hkn := hr.kn
  obtain ⟨i0, hi0, hz0, hz1, hz2⟩ := info_parts3 Ms.infoItem
  clear hI hh hr
  go_enter Tryz.func30, Tryz.ntmps30
  go_wp2
  go_loopw [3, 4] (fun v y wr => ∃ (j : Nat) (av : Option Addr) (cv : Nat), j ≤ r.known ∧ y = .int .i64 j ∧ v = .slice av (itsTo r j).length cv ∧ wr.ownsRow w.heap.size 103 3 (.slice av (itsTo r j).length cv) (itsTo r j).length (icells (itF (itsTo r j)) (itsTo r j).length) ∧ Below w.heap.size w wr) (fun _ y _ => r.known - (intOf y).toNat)
  case atStart => exact ⟨0, none, 0, Nat.zero_le _, rfl, rfl, World.ownsRow_nil _ _ _ _, Below.refl _ _⟩
  case round =>
    obtain ⟨j, av, cv, hj, rfl, rfl, hown, hB⟩ := hrel
    have HOW : Hid (wr.ownsRow w.heap.size 103 3 (.slice av (itsTo r j).length cv) (itsTo r j).length (icells (itF (itsTo r j)) (itsTo r j).length)) := hown
    have HLL := itsTo_len r HR.out j
    have HBr : Hid (Below w.heap.size w wr) := hB
    have k4 : wr.cell? ⟨P, 4, none⟩ = some (.int .i64 r.known) := (HI.out.below hB).row.cell (by decide)
    by_cases hlt : j < r.known
    · have HLK := refLacks r j P (grow F w wr) wr HR.out (rcv_below HA.out hB) (by omega)
      have hlk := lacks_len r HR.out j
      have HSU : Hid (itsTo r (j + 1) = itsTo r j ++ r.lacks j) := itsTo_succ r j
      obtain ⟨A, hA⟩ : ∃ A, A = (itsTo r j).length := ⟨_, rfl⟩
      have HAl : Hid (A = (itsTo r j).length) := hA
      obtain ⟨K, hK⟩ : ∃ K, K = (r.lacks j).length := ⟨_, rfl⟩
      have HKl : Hid (K = (r.lacks j).length) := hK
      rw [← hA] at HOW HLL ⊢
      rw [← hK] at HLK hlk
      clear hA hK hown hB
      go_wp2_with fail
      refine HLK.mono ?_
      rintro e w2 ⟨vv, rfl, ho2, hb2⟩
      have HB2 : Hid (Below w.heap.size w w2) := HBr.out.trans (hb2.mono HBr.out.size)
      have HO2 : Hid (w2.ownsRow w.heap.size 103 3 (.slice av A cv) A (icells (itF (itsTo r j)) A)) := Ms.owns_below HOW.out hb2
      have hz2' := HB2.out.size
      clear HLK hb2 HOW HBr k4
      rcases ho2.2 with ⟨e1, e2⟩ | ⟨g, cap, cur, e1, _, _, _, hcm, _⟩
      · subst e1
        have HN1 : Hid (itsTo r (j + 1) = itsTo r j) := by
          unfold Hid
          rw [HSU.out]
          have : r.lacks j = [] := List.length_eq_zero_iff.1 (by rw [← HKl.out]; exact e2)
          rw [this, List.append_nil]
        clear ho2 e2
        go_wp2_with (at_builtin; refine wpList_append_own_none rfl _ _ 97 rfl w.heap.size 103 i0 3 Tryz.underlying97 hi0 (.slice av A cv) A _ rfl HO2.out rfl ?_)
        go_wp2
        go_roundw
        case rel =>
          refine ⟨j + 1, av, cv, by omega, by go_num, by rw [HN1.out, ← HAl.out], ?_, HB2.out⟩
          rw [HN1.out, ← HAl.out]; exact HO2.out
        case measure => simp [intOf]; omega
      · subst e1
        have HNW : Hid (∀ q u, (icells (itF (r.lacks j)) K)[q]? = some u → w2.cell? ((⟨g, 0, none⟩ : Addr).add q) = some u) := fun q u hq => ho2.cells (g := g) rfl q u hq
        have HOC : Hid (∀ u ∈ icells (itF (r.lacks j)) K, u.oneCell' = true) := fun u hu => by
          unfold icells at hu
          obtain ⟨q, _, rfl⟩ := List.mem_map.1 hu
          exact Ms.icell_one _ _
        have HX : Hid (icells (itF (itsTo r j)) A ++ icells (itF (r.lacks j)) K = icells (itF (itsTo r (j + 1))) (A + K)) := by
          unfold Hid
          rw [HSU.out, HAl.out, HKl.out, icells_many]
        have HLn : Hid ((icells (itF (r.lacks j)) K).length = K * 3) := Ms.icells_length _ _
        have HA1 : Hid ((itsTo r (j + 1)).length = A + K) := by unfold Hid; rw [HSU.out, List.length_append, ← HAl.out, ← HKl.out]
        clear ho2
        generalize icells (itF (itsTo r j)) A = XS at *
        generalize icells (itF (r.lacks j)) K = YS at *
        go_wp2_with (at_builtin; refine wpList_append_own _ rfl _ _ 97 rfl w.heap.size 103 i0 (.agg #[.int .i64 0, .int .i64 0, .int .i64 0]) 3 24 Tryz.underlying97 hi0 hz0 hz1 hz2 rfl (by decide) (.slice av A cv) A XS rfl HO2.out ⟨g, 0, none⟩ K cap YS rfl HLn.out HNW.out HOC.out (by unfold maxLen; omega) (by omega) (by omega) ?_)
        intro v' w3 hown' hgrow _
        obtain ⟨av2, cv2, rfl⟩ := owns_form hown'
        have hb3 : Below w.heap.size w w3 := HB2.out.grown hgrow (by omega) (fun q hq => (HO2.out.lt q hq).1)
        rw [HX.out] at hown'
        have HO3 : Hid (w3.ownsRow w.heap.size 103 3 (.slice av2 (A + K) cv2) (A + K) (icells (itF (itsTo r (j + 1))) (A + K))) := hown'
        clear hown' hgrow HO2 HB2
        go_wp2
        go_roundw
        case rel =>
          refine ⟨j + 1, av2, cv2, by omega, by go_num, by rw [HA1.out], ?_, hb3⟩
          rw [HA1.out]; exact HO3.out
        case measure => simp [intOf]; omega
    · obtain rfl : j = r.known := by omega
      have eI : itsTo r r.known = r.items := rfl
      rw [eI] at HOW HLL hown ⊢
      have HIT : Hid (ItemsAt wr av r.items.length (itF r.items)) := owns_items hown
      have HOKs : Hid (∀ t ∈ r.items, itOK t) := items_ok r HR.out
      have HRQ : Hid (r.request = if r.items = [] then ⟨#[]⟩ else txt (text (reqM (r.items.take 8)))) := rfl
      have hcap : r.items.length ≤ cv := by
        rcases hown.2 with ⟨e1, e2⟩ | ⟨g, cap, cur, e1, _, _, hnc, _⟩
        · rw [e2]; exact Nat.zero_le _
        · simp only [Value.slice.injEq] at e1
          rw [e1.2.2]; exact hnc
      have HW : Hid (r.items ≠ [] → ∀ W ao cp, ItemsAt W ao (r.items.take 8).length (itF (r.items.take 8)) → Calls Tryz.prog 41 #[mV 2 0 0 0 0 ⟨#[]⟩ ao (r.items.take 8).length cp 0] W fun e w' => e = .returned (.tuple #[.string (txt (text (reqM (r.items.take 8)))), .int .i64 0]) ∧ Below W.heap.size W w') := fun hne W ao cp hit => by
        have hok : ok (reqM (r.items.take 8)) := by
          refine .inr (.inl ⟨rfl, ⟨rfl, rfl, rfl, rfl, rfl⟩, rfl, ?_, ?_, fun t ht => HOKs.out t (List.mem_of_mem_take ht)⟩)
          · show 1 ≤ (r.items.take 8).length
            have := List.length_pos_iff.2 hne
            rw [List.length_take]; omega
          · show (r.items.take 8).length ≤ 8
            rw [List.length_take]; omega
        refine (refWrite (reqM (r.items.take 8)) ao cp W (by show (r.items.take 8).length ≤ maxLen; rw [List.length_take]; unfold maxLen; omega) (Nat.zero_le _) hit).mono ?_
        rintro e w' ⟨ho, hb⟩
        rcases ho with ⟨_, rfl⟩ | ⟨h, _⟩
        · exact ⟨rfl, hb⟩
        · exact absurd hok h
      have HTK : Hid (ItemsAt wr av (r.items.take 8).length (itF (r.items.take 8))) := by
        unfold Hid
        have hle : (r.items.take 8).length ≤ r.items.length := by rw [List.length_take]; omega
        rcases HIT.out with h | ⟨b, off, h1, h2, h3⟩
        · exact .inl (by omega)
        · refine .inr ⟨b, off, h1, h2, fun i hi => ?_⟩
          have e : itF (r.items.take 8) i = itF r.items i := by
            have hi8 : i < 8 := by rw [List.length_take] at hi; omega
            simp [itF, List.getD_eq_getElem?_getD, hi8]
          rw [e]
          exact h3 i (by omega)
      have HTL : Hid ((r.items.take 8).length = min 8 r.items.length) := List.length_take
      obtain ⟨A, hA⟩ : ∃ A, A = r.items.length := ⟨_, rfl⟩
      have HAl : Hid (A = r.items.length) := hA
      rw [← hA] at hcap
      rw [← hA] at HLL
      rw [← hA] at HTL
      rw [← hA]
      clear hA hown hB HOW HIT hlt eI
      by_cases h0 : A = 0
      · subst h0
        have HE : Hid (r.request = ⟨#[]⟩) := by unfold Hid; rw [HRQ.out, if_pos (List.length_eq_zero_iff.1 HAl.out.symm)]
        clear HW HTK
        go_wp2
        go_ret
        exact ⟨by rw [HE.out]; rfl, HBr.out⟩
      · have hne : r.items ≠ [] := fun e => h0 (by rw [HAl.out, e]; rfl)
        have HE : Hid (r.request = txt (text (reqM (r.items.take 8)))) := by unfold Hid; rw [HRQ.out, if_neg hne]
        have HWW := HW.out hne wr av
        have t0 : ((A : Int) == 0) = false := by simpa using h0
        clear HW hne h0
        by_cases h8 : 8 < A
        · have hT : (r.items.take 8).length = 8 := by rw [HTL.out]; omega
          rw [hT] at HWW
          have HW8 := fun cp => HWW cp (by have := HTK.out; rw [hT] at this; exact this)
          have hc8 : (8 : Int) ≤ (cv : Int) := by omega
          clear HWW hT
          generalize txt (text (reqM (r.items.take 8))) = TX at *
          go_wp2_with fail
          refine (HW8 cv).mono ?_
          rintro e w3 ⟨rfl, hb3⟩
          have HB3 : Hid (Below w.heap.size w w3) := HBr.out.trans (hb3.mono HBr.out.size)
          clear HW8 hb3
          go_wp2
          go_ret
          exact ⟨by rw [HE.out]; rfl, HB3.out⟩
        · have hT : (r.items.take 8).length = A := by rw [HTL.out]; omega
          rw [hT] at HWW
          have HW8 := fun cp => HWW cp (by have := HTK.out; rw [hT] at this; exact this)
          clear HWW hT
          generalize txt (text (reqM (r.items.take 8))) = TX at *
          go_wp2_with fail
          refine (HW8 cv).mono ?_
          rintro e w3 ⟨rfl, hb3⟩
          have HB3 : Hid (Below w.heap.size w w3) := HBr.out.trans (hb3.mono HBr.out.size)
          clear HW8 hb3
          go_wp2
          go_ret
          exact ⟨by rw [HE.out]; rfl, HB3.out⟩
end Sn
end Go.Proofs.YtkgnmcekeeannaaGreat
/-
  The reference's receiver: Take.
-/
namespace Go.Proofs.YtkgnmcekeeannaaGreat
open Go.RowKit Go.Deep
namespace Sn
open Bs
open Ms (txt text ok M It mV mVm mBox mRow mRow_new itF itOK ItemsAt Tells ReadOut refRead refWrite owns_setCell owns_items icells icell icells_succ icells_congr)
set_option linter.unusedVariables false

def objTo (r : Rt) (o j : Nat) : List UInt8 := (List.range j).flatMap (r.blockOf o)
theorem objTo_succ (r : Rt) (o j : Nat) : objTo r o (j + 1) = objTo r o j ++ r.blockOf o j := by
  unfold objTo
  rw [List.range_succ, List.flatMap_append]; simp
theorem blockOf_length (r : Rt) (o b : Nat) : (r.blockOf o b).length = (r.come o b).length * r.n.size := by
  unfold Rt.blockOf; rw [Cod.flat_length]
/-- an object of which nothing lacks -/
def Whole (r : Rt) (o : Nat) : Prop := r.len o ≠ 0 ∧ ∀ b, b < r.n.blocks (r.len o) → (r.come o b).length = r.n.many (r.len o) b
theorem whole_of {r : Rt} {o : Nat} (h : r.lacks o = []) : Whole r o := by
  rw [lacks_eq] at h
  split at h
  · cases h
  · rename_i h0
    refine ⟨h0, fun b hb => ?_⟩
    have hl := come_len r o b
    by_cases e : (r.come o b).length < r.n.many (r.len o) b
    · exfalso
      have hm : lackOf r o b = some ⟨o, b, ((r.n.many (r.len o) b - (r.come o b).length : Nat) : Int)⟩ := by unfold lackOf; rw [if_pos e]
      have : (⟨o, b, ((r.n.many (r.len o) b - (r.come o b).length : Nat) : Int)⟩ : It) ∈ lackTo r o (r.n.blocks (r.len o)) := List.mem_filterMap.2 ⟨b, List.mem_range.2 hb, hm⟩
      rw [h] at this
      cases this
    · omega
theorem many_sum (n : Nm) (hn : n.ok) (len j : Nat) (hj : j ≤ n.blocks len) : min (j * n.block) (n.all len) + n.many len j = min ((j + 1) * n.block) (n.all len) := by
  obtain ⟨_, _, h3, _⟩ := hn
  have hjb : j * n.block ≤ n.all len + n.block - 1 := by
    unfold Nm.blocks at hj
    exact (Nat.le_div_iff_mul_le (by omega)).1 hj
  unfold Nm.many
  rw [Nat.succ_mul]
  omega
theorem objTo_length (r : Rt) (hr : ROk r) (o : Nat) (h : Whole r o) : ∀ j, j ≤ r.n.blocks (r.len o) → (objTo r o j).length = min (j * r.n.block) (r.n.all (r.len o)) * r.n.size := by
  intro j
  induction j with
  | zero => intro _; simp [objTo]
  | succ j ih =>
    intro hj
    rw [objTo_succ, List.length_append, ih (by omega), blockOf_length, h.2 j (by omega), ← Nat.add_mul, many_sum r.n hr.nok _ _ (by omega)]
theorem objTo_enough (r : Rt) (hr : ROk r) (o : Nat) (h : Whole r o) : r.len o ≤ (objTo r o (r.n.blocks (r.len o))).length := by
  rw [objTo_length r hr o h _ (Nat.le_refl _)]
  obtain ⟨h1, _, h3, _⟩ := hr.nok
  have hb : r.n.all (r.len o) ≤ r.n.blocks (r.len o) * r.n.block := by
    unfold Nm.blocks
    have := Nat.div_add_mod (r.n.all (r.len o) + r.n.block - 1) r.n.block
    have hm := Nat.mod_lt (r.n.all (r.len o) + r.n.block - 1) (show 0 < r.n.block by omega)
    rw [Nat.mul_comm] at this
    omega
  rw [Nat.min_eq_right hb]
  unfold Nm.all
  have := Nat.div_add_mod (r.len o + r.n.size - 1) r.n.size
  have hm := Nat.mod_lt (r.len o + r.n.size - 1) (show 0 < r.n.size by omega)
  rw [Nat.mul_comm] at this
  omega
theorem syms_size (r : Rt) (hr : ROk r) (o b : Nat) : (txt (symsOf (r.come o b))).size = (r.come o b).length * r.n.size := by
  have key : ∀ l : List M, (∀ m ∈ l, m.sym.size = r.n.size) → (symsOf l).length = l.length * r.n.size := by
    intro l
    induction l with
    | nil => intro _; simp [symsOf]
    | cons m l ih =>
      intro h
      have e : (symsOf (m :: l)).length = m.sym.size + (symsOf l).length := by simp [symsOf]
      rw [e, ih (fun x hx => h x (by simp [hx])), h m (by simp), List.length_cons, Nat.succ_mul]; omega
  rw [Ms.txt_size]
  exact key _ (fun m hm => (hr.hd m (come_mem hm)).2.2)
theorem num_at (r : Rt) (hr : ROk r) (o b i : Nat) (hi : i < (r.come o b).length) : numAt (r.come o b) i < 16 ∧ (((r.come o b)[i]).num : Int) = (numAt (r.come o b) i : Int) := by
  obtain ⟨_, hd, _⟩ := hr.hd _ (come_mem (List.getElem_mem hi))
  obtain ⟨_, _, _, _, q5, q6, _⟩ := hd
  have e : numAt (r.come o b) i = ((r.come o b)[i]).num.toNat := by unfold numAt; rw [List.getElem?_eq_getElem hi]; rfl
  rw [e]
  omega
theorem num_apart (r : Rt) (hr : ROk r) (o b : Nat) : ∀ i j, i < (r.come o b).length → j < (r.come o b).length → i ≠ j → numAt (r.come o b) i ≠ numAt (r.come o b) j := by
  intro i j hi hj hne e
  have hnd := (come_come r o b).2
  have e1 := (num_at r hr o b i hi).2
  have e2 := (num_at r hr o b j hj).2
  rw [e, ← e2] at e1
  have h1 : i < ((r.come o b).map M.num).length := by rw [List.length_map]; exact hi
  have h2 : j < ((r.come o b).map M.num).length := by rw [List.length_map]; exact hj
  have := (List.getElem_inj (h₀ := h1) (h₁ := h2) hnd).1 (by simpa using e1)
  exact hne this
theorem rRow_set5 (n : Nm) (vh : Value) (known taken k : Nat) (j : Nat) (hj : j < 6) : (if j = 5 then (.int .i64 k : Value) else rRow n vh known taken j) = rRow n vh known k j := by
  match j, hj with
  | 0, _ => rfl
  | 1, _ => rfl
  | 2, _ => rfl
  | 3, _ => rfl
  | 4, _ => rfl
  | 5, _ => rfl
theorem RI.set_taken {w wr : World} {P : Nat} {n : Nm} {hs : List Hm} {known taken : Nat} {F : Nat → Prop} {ah : Option Addr} {ch : Nat}
    (h : RI w wr P n hs known taken F ah ch) (k : Nat) : RI w (wr.setCell ⟨P, 5, none⟩ (.int .i64 k)) P n hs known k F ah ch :=
  ⟨(h.row.set 5 _).congr (fun j hj => rRow_set5 n _ known taken k j hj), owns_setCell h.hd h.hp, h.fP, h.hp, h.fh, touch_set h.touch (.inl h.fP)⟩
set_option maxRecDepth 100000 in
set_option maxHeartbeats 4000000 in
theorem refTake (r : Rt) (P : Nat) (F : Nat → Prop) (w : World) (hr : ROk r) (htk : r.taken ≤ 8) (hA : RcvAt w P r F) :
    Calls Tryz.prog 26 #[.pointer (some ⟨P, 0, none⟩)] w fun e w' => e = .returned (.tuple #[.string r.take.2.1, .bool r.take.2.2]) ∧ RcvAt w' P r.take.1 (grow F w w') ∧ Touch w w' F := by
  have HA : Hid (RcvAt w P r F) := hA
  obtain ⟨hs, ah, ch, hh, hI⟩ := hA
  have HI : Hid (RI w w P r.n hs r.known r.taken F ah ch) := hI
  have HH : Hid (hs.map Hm.m = r.heard) := hh
  obtain ⟨eln, hln⟩ := hr.len r.taken
  have hl := hr.hl
  have hkn := hr.kn
  have HLEN := refLength (r.taken : Int) hI (by rw [← List.length_map (f := Hm.m), hh]; omega)
  rw [hh, eln] at HLEN
  have HLK := refLacks r r.taken P F w hr HA.out (by omega)
  have x0 : w.cell? ⟨P, 0, none⟩ = some (.int .i64 r.n.size) := hI.row.cell (by decide)
  have x4 : w.cell? ⟨P, 4, none⟩ = some (.int .i64 r.known) := hI.row.cell (by decide)
  have x5 : w.cell? ⟨P, 5, none⟩ = some (.int .i64 r.taken) := hI.row.cell (by decide)
  have HR : Hid (ROk r) := hr
  have HTK : Hid (r.take = if r.known ≤ r.taken ∨ r.lacks r.taken ≠ [] then (r, ⟨#[]⟩, false) else ({ r with taken := r.taken + 1 }, txt (r.obj r.taken), true)) := rfl
  clear hI hh hr
  go_enter Tryz.func26, Tryz.ntmps26
  go_wp2_with fail
  refine HLEN.mono ?_
  rintro e w1 ⟨rfl, rfl⟩
  clear HLEN
  go_wp2_with fail
  refine HLK.mono ?_
  rintro e w2 ⟨lv, rfl, ho2, hb2⟩
  obtain ⟨la, lc, rfl⟩ := owns_form ho2
  have HI2 : Hid (RI w1 w2 P r.n hs r.known r.taken F ah ch) := HI.out.below hb2
  have HB2 : Hid (Below w1.heap.size w1 w2) := hb2
  have y0 : w2.cell? ⟨P, 0, none⟩ = some (.int .i64 r.n.size) := HI2.out.row.cell (by decide)
  have y1 : w2.cell? ⟨P, 1, none⟩ = some (.int .i64 r.n.block) := HI2.out.row.cell (by decide)
  have y2 : w2.cell? ⟨P, 2, none⟩ = some (.int .i64 r.n.spare) := HI2.out.row.cell (by decide)
  have y4 : w2.cell? ⟨P, 4, none⟩ = some (.int .i64 r.known) := HI2.out.row.cell (by decide)
  have hlk := lacks_len r HR.out r.taken
  obtain ⟨K, hK⟩ : ∃ K, K = (r.lacks r.taken).length := ⟨_, rfl⟩
  have HK : Hid (K = (r.lacks r.taken).length) := hK
  rw [← hK] at hlk ⊢
  clear HLK ho2 hb2 x0 x4 x5 hK
  by_cases hno : r.known ≤ r.taken ∨ 0 < K
  · have HE : Hid (r.take = (r, ⟨#[]⟩, false)) := by
      unfold Hid
      rw [HTK.out, if_pos]
      rcases hno with h | h
      · exact .inl h
      · exact .inr (fun e => by rw [HK.out, e] at h; simp at h)
    have HRC : Hid (RcvAt w2 P r (grow F w1 w2)) := rcv_below HA.out HB2.out
    have hno2 : r.known ≤ r.taken ∨ (r.taken < r.known ∧ 0 < K) := by omega
    clear hno
    rcases hno2 with h | ⟨h, h2⟩
    all_goals
      go_wp2
      go_ret2
      rw [HE.out]
      exact ⟨rfl, HRC.out, HI2.out.touch⟩
  · have hK0 : K = 0 := by omega
    have hlt : r.taken < r.known := by omega
    have HWH : Hid (Whole r r.taken) := whole_of (List.length_eq_zero_iff.1 (by rw [← HK.out]; exact hK0))
    have HE : Hid (r.take = ({ r with taken := r.taken + 1 }, txt (r.obj r.taken), true)) := by
      unfold Hid
      rw [HTK.out, if_neg]
      rintro (h | h)
      · omega
      · exact h (List.length_eq_zero_iff.1 (by rw [← HK.out]; exact hK0))
    have HOB : Hid (r.obj r.taken = (objTo r r.taken (r.n.blocks (r.len r.taken))).take (r.len r.taken)) := rfl
    have HBL := blocks_any r.n (r.len r.taken) w2 HR.out.nok (by omega)
    have hBl := blocks_le r.n HR.out.nok (r.len r.taken) hln
    have HEN : Hid (r.len r.taken ≤ (objTo r r.taken (r.n.blocks (r.len r.taken))).length) := objTo_enough r HR.out r.taken HWH.out
    simp only [nmV] at HBL
    obtain ⟨o, ho⟩ : ∃ o, o = r.taken := ⟨_, rfl⟩
    have HO : Hid (o = r.taken) := ho
    have hoz : (r.taken : Int) = (o : Int) := by rw [ho]
    obtain ⟨LN, hLN⟩ : ∃ LN, LN = r.len r.taken := ⟨_, rfl⟩
    obtain ⟨Bn, hBn⟩ : ∃ Bn, Bn = r.n.blocks (r.len r.taken) := ⟨_, rfl⟩
    have HBn : Hid (Bn = r.n.blocks (r.len r.taken)) := hBn
    rw [← hBn, ← hLN] at HOB HEN
    rw [← hBn, ← hLN] at HBL
    rw [← hBn] at hBl
    rw [← hLN] at hln ⊢
    clear hno hLN hBn eln HTK ho hoz
    subst hK0
    go_wp2_with fail
    refine HBL.mono ?_
    rintro e w3 ⟨rfl, hb3⟩
    have HB3 : Hid (Below w1.heap.size w1 w3) := HB2.out.trans (hb3.mono HB2.out.size)
    clear HBL hb3 y0 y1 y2 y4 HI2 HB2
    go_wp2
    go_loopw [7, 9] (fun v y wr => ∃ j : Nat, j ≤ Bn ∧ y = .int .i64 j ∧ v = .string (txt (objTo r r.taken j)) ∧ Below w1.heap.size w1 wr) (fun _ y _ => Bn - (intOf y).toNat)
    case atStart => exact ⟨0, Nat.zero_le _, rfl, rfl, HB3.out⟩
    case round =>
      clear HB3
      obtain ⟨j, hj, rfl, rfl, hB⟩ := hrel
      have HB : Hid (Below w1.heap.size w1 wr) := hB
      have hol := objTo_length r HR.out r.taken HWH.out j (by rw [← HBn.out]; exact hj)
      have hall := all_le r.n HR.out.nok (r.len r.taken) (HR.out.len r.taken).2
      have hz16 := HR.out.nok.2.1
      have hsz : (txt (objTo r r.taken j)).size ≤ 256 * 16 := by
        rw [Ms.txt_size, hol]
        exact Nat.mul_le_mul (by omega) hz16
      clear hol hall
      by_cases hlj : j < Bn
      · have hcl : (r.come r.taken j).length = r.n.many (r.len r.taken) j := HWH.out.2 j (by rw [← HBn.out]; exact hlj)
        have hpos := many_pos r.n HR.out.nok (r.len r.taken) j (by rw [← HBn.out]; exact hlj)
        have hm := many_le r.n (r.len r.taken) j
        have hb8 := HR.out.nok.2.2.2.1
        have HCO := refCome r r.taken j P (grow F w1 wr) wr HR.out (rcv_below HA.out hB) (by omega) (by omega)
        have HSU : Hid (txt (objTo r r.taken j) ++ txt (r.blockOf r.taken j) = txt (objTo r r.taken (j + 1))) := by unfold Hid; rw [objTo_succ, Ms.txt_append]
        have hbs : (txt (r.blockOf r.taken j)).size ≤ 8 * 16 := by
          rw [Ms.txt_size, blockOf_length, hcl]
          exact Nat.mul_le_mul (by omega) hz16
        have HSY : Hid (∀ (W : World) (g cap : Nat), g < W.heap.size → (∀ i, i < (r.come r.taken j).length → W.cell? ⟨g, i, none⟩ = some (.int .i64 (numAt (r.come r.taken j) i))) →
            Calls Tryz.prog 48 #[.slice (some ⟨g, 0, none⟩) (r.come r.taken j).length cap, .string (txt (symsOf (r.come r.taken j))), .int .i64 r.n.size, .int .i64 0, .int .i64 (r.come r.taken j).length] W fun e w' => e = .returned (.string (txt (r.blockOf r.taken j))) ∧ Below W.heap.size W w') := fun W g cap hg hcell =>
          Cod.refSymbols_nat 0 (r.come r.taken j).length (r.come r.taken j).length g 0 cap r.n.size (numAt (r.come r.taken j)) (txt (symsOf (r.come r.taken j))) W (by omega) (fun i hi => (num_at r HR.out r.taken j i hi).1) (Cod.apart_of (fun i hi => (num_at r HR.out r.taken j i hi).1) (num_apart r HR.out r.taken j)) hg (by omega) (by omega) HR.out.nok.1 HR.out.nok.2.1 (syms_size r HR.out r.taken j) (fun i hi => by rw [Nat.zero_add]; exact hcell i hi)
        have HNA : Hid (∀ i, i < (r.come r.taken j).length → (nums (r.come r.taken j))[i]? = some (.int .i64 (numAt (r.come r.taken j) i))) := fun i hi => by
          have := (num_at r HR.out r.taken j i hi).2
          unfold nums
          rw [List.getElem?_map, List.getElem?_eq_getElem hi]
          show some (Value.int .i64 (r.come r.taken j)[i].num) = _
          rw [this]
        generalize txt (objTo r r.taken j) = TA at *
        generalize txt (r.blockOf r.taken j) = TB at *
        generalize txt (symsOf (r.come r.taken j)) = TC at *
        generalize numAt (r.come r.taken j) = NA at *
        generalize nums (r.come r.taken j) = NS at *
        obtain ⟨c, hc⟩ : ∃ c, c = (r.come r.taken j).length := ⟨_, rfl⟩
        rw [← hc] at hcl HCO HSY HNA
        have hc0 : 0 < c := by omega
        have hc8 : c ≤ 8 := by omega
        clear hc hcl hpos hm
        have hadd : ∀ W, (Op.stringOp .add TA TB).run Tryz.prog W = .ok (.string (TA ++ TB)) W := fun W => run_string_add_sum W _ _ (by omega)
        go_wp2_with fail
        refine HCO.mono ?_
        rintro e w4 ⟨vv, rfl, ho4, hb4⟩
        obtain ⟨g, cp, rfl, hgc⟩ := owns_cells ho4 hc0
        have HB4 : Hid (Below w1.heap.size w1 w4) := HB.out.trans (hb4.mono HB.out.size)
        have z0 : w4.cell? ⟨P, 0, none⟩ = some (.int .i64 r.n.size) := (HI.out.below HB4.out).row.cell (by decide)
        have HSY4 := HSY.out w4 g cp (ho4.lt g rfl).2 (fun i hi => hgc i _ (HNA.out i hi))
        clear HCO ho4 hb4 hgc HB HSY HNA
        go_wp2_with fail
        refine HSY4.mono ?_
        rintro e w5 ⟨rfl, hb5⟩
        have HB5 : Hid (Below w1.heap.size w1 w5) := HB4.out.trans (hb5.mono HB4.out.size)
        clear HSY4 hb5 HB4 z0
        go_wp2
        go_roundw
        case rel => exact ⟨j + 1, by omega, by go_num, by rw [← HSU.out], HB5.out⟩
        case measure => simp [intOf]; omega
      · obtain rfl : j = Bn := by omega
        have HS : Hid (RI w1 (wr.setCell ⟨P, 5, none⟩ (.int .i64 (r.taken + 1 : Nat))) P r.n hs r.known (r.taken + 1) F ah ch) := (HI.out.below HB.out).set_taken (r.taken + 1)
        have f5 := (HI.out.below HB.out).row.frozen 5
        have z5 : wr.cell? ⟨P, 5, none⟩ = some (.int .i64 r.taken) := (HI.out.below HB.out).row.cell (by decide)
        have hen : LN ≤ (txt (objTo r r.taken j)).size := by rw [Ms.txt_size]; exact HEN.out
        have HV : Hid ((txt (objTo r r.taken j)).extract 0 LN = txt (r.obj r.taken)) := by
          unfold Hid
          rw [HOB.out]
          apply ByteArray.ext
          apply Array.ext'
          rw [Lib.extract_data, List.drop_zero]
          simp [txt]
        have hsl : ∀ W : World, (Instr.slice 9 (.string (txt (objTo r r.taken j))) none (some (.int .i64 (LN : Int))) none).run Tryz.prog W = .ok (.string ((txt (objTo r r.taken j)).extract 0 LN)) W := fun W => by
          have h := run_slice_string_to_if (P := Tryz.prog) W 9 (txt (objTo r r.taken j)) .i64 (LN : Int) Tryz.underlying9
          rw [h]
          simp
          omega
        rw [HV.out] at hsl
        generalize txt (objTo r r.taken j) = TA at *
        clear hlj
        go_wp2
        go_ret2
        rw [HE.out]
        refine ⟨rfl, ?_, HS.out.touch⟩
        have := HS.out.done
        rw [HH.out] at this
        exact this
end Sn
end Go.Proofs.YtkgnmcekeeannaaGreat
