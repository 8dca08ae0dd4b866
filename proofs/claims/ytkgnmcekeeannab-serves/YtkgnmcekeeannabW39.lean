import Derived.Test.YtkgnmcekeeannabW38
import Derived.Test.YtkgnmcekeeannabW31
import Derived.Test.YtkgnmcekeeannabW06
import Derived.Test.YtkgnmcekeeannabW34
/-
  Four senders and the law's own memory, side by side.
-/
namespace Go.Proofs.Ytkgnmcekeeannab
open Go.RowKit Go.Deep
namespace Sn
open Bs
open Ms (owns_setCell)
set_option linter.unusedVariables false

theorem owns_same {w w' : World} {base e size n : Nat} {v : Value} {xs : List Value} (h : w.ownsRow base e size v n xs) (hb : ∀ b, v.ownBlock = some b → w'.heap[b]? = w.heap[b]?) : w'.ownsRow base e size v n xs := by
  refine ⟨h.1, ?_⟩
  rcases h.2 with hn | ⟨g, cap, cur, e, hb', hg, rest⟩
  · exact .inl hn
  · refine .inr ⟨g, cap, cur, e, hb', ?_, rest⟩
    rw [hb g (by rw [e]; rfl)]
    exact hg
theorem LndAt.stay {w w' : World} {P : Nat} {s : LS} {F F' G : Nat → Prop} (h : LndAt w P s F) (t : Touch w w' G) (hd : ∀ b, F b → ¬ G b) (hF : ∀ b, F b → b < w.heap.size → F' b) : LndAt w' P s F' := by
  obtain ⟨ao, co, D, h⟩ := h
  refine ⟨ao, co, D, ?_⟩
  exact ⟨h.row.of_block (t.block _ h.row.lt (hd _ h.fP)), owns_same h.ob (fun b hb => t.block b (h.ob.lt b hb).2 (hd _ (h.fo b hb))), fun i hi => (h.db i hi).of_block (t.block _ (h.db i hi).lt (hd _ (h.fd i hi))),
    hF _ h.fP h.row.lt, fun b hb => hF _ (h.fo b hb) (h.ob.lt b hb).2, fun i hi => hF _ (h.fd i hi) (h.db i hi).lt, h.op, h.dp, h.od, h.dd⟩
theorem LndAt.mono {w : World} {P : Nat} {s : LS} {F F' : Nat → Prop} (h : LndAt w P s F) (hF : ∀ b, F b → b < w.heap.size → F' b) : LndAt w P s F' := h.stay (Touch.refl w (fun _ => False)) (fun _ _ h => h) hF
/-! ### the law's own memory -/
theorem infoPL : (Try.prog.info? 43).map (fun i => (i.zero, i.size, i.bytes)) = some (some (.pointer none), 1, 8) := by kernel_rfl
def ptrs (l : List (Option Nat)) : List Value := l.map (fun p => Value.pointer (p.map (fun b => ⟨b, 0, none⟩)))
def wRow (va vb vc : Value) (j : Nat) : Value := ([va, vb, .slice none 0 0, .slice none 0 0, vc, .slice none 0 0] : List Value).getD j undef
theorem new_ne {w w1 : World} {v v' : Value} {o : Obj} (hat : v'.ownBlock = v.ownBlock ∨ v'.ownBlock = some (w.alloc o).heap.size) {x : Nat} (hx : x < w.heap.size) (hne : v.ownBlock ≠ some x) : v'.ownBlock ≠ some x := fun e => by
  rcases hat with h | h
  · rw [h] at e; exact hne e
  · rw [h] at e; simp at e; omega
theorem grown_block {w w1 : World} {v : Value} {o : Obj} (hg : (w.alloc o).grownBy w1 v.ownBlock) {x : Nat} (hx : x < w.heap.size) (hne : v.ownBlock ≠ some x) : w1.heap[x]? = w.heap[x]? :=
  (hg.block x (by simp; omega) (fun e => hne e.symm)).trans (Below.heap_alloc w _ x hx)
theorem touch_append {w w1 : World} {v y : Value} {o : Obj} {G : Nat → Prop} {Q j : Nat} (hg : (w.alloc o).grownBy w1 v.ownBlock) (hv : ∀ x, v.ownBlock = some x → G x) (hQ : G Q) : Touch w (w1.setCell ⟨Q, j, none⟩ y) G := by
  have hs := hg.size
  refine ⟨hg.os, hg.tape, hg.output, by simp at hs ⊢; omega, fun x hx hG => ?_⟩
  rw [heap_setCell_other _ _ _ _ (fun e => hG (by rw [e]; exact hQ))]
  exact grown_block hg hx (fun e => hG (hv x e))
end Sn
end Go.Proofs.Ytkgnmcekeeannab
/-
  Which of n things a raw number speaks of, in the law's package.
-/
namespace Go.Proofs.Ytkgnmcekeeannab
open Go.RowKit Go.Deep
namespace Sn
open Fld (ret_int val_int)

end Sn
end Go.Proofs.Ytkgnmcekeeannab
/-
  The memory of the law's game, painted: who owns which block.
-/
namespace Go.Proofs.Ytkgnmcekeeannab
open Go.RowKit Go.Deep
namespace Sn
open Bs
set_option linter.unusedVariables false

/-- what is made from there on is painted so -/
def paint (C : Nat → Nat) (k n : Nat) : Nat → Nat := fun b => if n ≤ b then k else C b
theorem paint_old {C : Nat → Nat} {k n b : Nat} (h : b < n) : paint C k n b = C b := by unfold paint; rw [if_neg (by omega)]
theorem paint_new {C : Nat → Nat} {k n b : Nat} (h : n ≤ b) : paint C k n b = k := by unfold paint; rw [if_pos h]
theorem paint_grow {C : Nat → Nat} {k : Nat} {w w' : World} {b : Nat} (h : grow (fun b => C b = k) w w' b) : paint C k w.heap.size b = k := by
  by_cases e : w.heap.size ≤ b
  · exact paint_new e
  · rw [paint_old (by omega)]
    rcases h with h | h
    · exact h
    · omega
theorem below_touch {B k : Nat} {w0 w w1 : World} {C : Nat → Nat} (h : Below B w0 w) (low : ∀ b, b < B → C b = 0) (t : Touch w w1 (fun b => C b = k)) (hk : k ≠ 0) (hB : B ≤ w.heap.size) : Below B w0 w1 :=
  ⟨t.os.trans h.os, t.tape.trans h.tape, t.output.trans h.output, by have := h.size; have := t.size; omega, fun b hb => (t.block b (by omega) (fun e => hk (by rw [← e, low b hb]))).trans (h.block b hb)⟩

structure Cols (kl kr ml mr : Nat) : Prop where
  a : kl ≠ kr
  b : kl ≠ ml
  c : kl ≠ mr
  d : kl ≠ 5
  e : kr ≠ ml
  f : kr ≠ mr
  g : kr ≠ 5
  h : ml ≠ mr
  i : ml ≠ 5
  j : mr ≠ 5
  k : kl ≠ 0
  l : kr ≠ 0
  m : ml ≠ 0
  n : mr ≠ 0
section
variable {B : Nat} {w0 w w1 : World} {C : Nat → Nat} {Q : Nat} {va vb vc : Value} {ps qs : List (Option Nat)} {on : List ByteArray} {kl kr ml mr P R P' R' : Nat} {s s' : St} {l l' : LS}
theorem keep_low (low : ∀ b, b < B → C b = 0) (hB : B ≤ w.heap.size) (k : Nat) : ∀ b, b < B → paint C k w.heap.size b = 0 := fun b hb => by rw [paint_old (by omega)]; exact low b hb
theorem stay_l {k j : Nat} (hjk : j ≠ k) (h : LndAt w P l (fun b => C b = j)) (t : Touch w w1 (fun b => C b = k)) : LndAt w1 P l (fun b => paint C k w.heap.size b = j) :=
  h.stay t (fun b h1 h2 => hjk (h1.symm.trans h2)) (fun b h1 h2 => by rw [paint_old h2]; exact h1)
end
end Sn
end Go.Proofs.Ytkgnmcekeeannab
/-
  What came of honest messages is what was sent: in plain words.
-/
namespace Go.Proofs.Ytkgnmcekeeannab
namespace Sn
open Ms (txt text M It)
open Cod (byteAt flat flat_get flat_length symF gx)
set_option linter.unusedVariables false

/-- all that was heard is what a sender of these objects says -/
def Hon (r : Rt) (objs : List ByteArray) : Prop :=
  ∀ m ∈ r.heard, ∃ i b num, i < objs.length ∧ b < r.n.blocks (objs.getD i ⟨#[]⟩).size ∧ num < r.n.many (objs.getD i ⟨#[]⟩).size b + r.n.spare ∧ m = dataM r.n (objs.getD i ⟨#[]⟩) i b num
theorem lenIn_find {l : List M} {o : Int} (h : lenIn l o ≠ 0) : ∃ m ∈ l, m.obj = o ∧ lenIn l o = m.len := by
  induction l with
  | nil => exact absurd rfl h
  | cons m l ih =>
    unfold lenIn at h ⊢
    by_cases e : m.obj = o
    · rw [if_pos e]; exact ⟨m, by simp, e, rfl⟩
    · rw [if_neg e] at h ⊢
      obtain ⟨x, hx, h1, h2⟩ := ih h
      exact ⟨x, by simp [hx], h1, h2⟩
theorem Hon.len {r : Rt} {objs : List ByteArray} (h : Hon r objs) {o : Nat} (h0 : r.len o ≠ 0) : o < objs.length ∧ r.len o = (objs.getD o ⟨#[]⟩).size := by
  have hne : lenIn r.heard o ≠ 0 := fun e => h0 (by unfold Rt.len; rw [e]; rfl)
  obtain ⟨m, hm, e1, e2⟩ := lenIn_find hne
  obtain ⟨i, b, num, hi, _, _, rfl⟩ := h m hm
  have e3 : ((i : Nat) : Int) = (o : Int) := e1
  have e4 : i = o := by omega
  subst e4
  refine ⟨hi, ?_⟩
  unfold Rt.len
  rw [e2]
  show (((objs.getD i ⟨#[]⟩).size : Nat) : Int).toNat = _
  omega
theorem Hon.come {r : Rt} {objs : List ByteArray} (h : Hon r objs) {o b : Nat} {m : M} (hm : m ∈ r.come o b) : ∃ num, num < r.n.many (objs.getD o ⟨#[]⟩).size b + r.n.spare ∧ m = dataM r.n (objs.getD o ⟨#[]⟩) o b num := by
  obtain ⟨h1, h2⟩ := (come_come r o b).1 m hm
  obtain ⟨i, b', num, hi, hb, hn, rfl⟩ := h m (come_mem hm)
  have e3 : ((i : Nat) : Int) = (o : Int) := h1
  have e4 : ((b' : Nat) : Int) = (b : Int) := h2
  have e5 : i = o := by omega
  have e6 : b' = b := by omega
  subst e5 e6
  exact ⟨num, hn, rfl⟩
/-- a symbol's byte -/
def lag' (k : Nat) (X : List UInt8) (z num p : Nat) : UInt8 := symF k id (txt X) z num 0 p
theorem symsOf_at (z : Nat) (hz : 1 ≤ z) : ∀ (l : List M), (∀ m ∈ l, m.sym.size = z) → ∀ a p, a < l.length → p < z → (symsOf l)[a * z + p]? = (l[a]?).bind (fun m => m.sym.data.toList[p]?) := by
  intro l
  induction l with
  | nil => intro _ a p ha; simp at ha
  | cons m l ih =>
    intro h a p ha hp
    have hm : m.sym.data.toList.length = z := by rw [Array.length_toList]; exact h m (by simp)
    have e : symsOf (m :: l) = m.sym.data.toList ++ symsOf l := by simp [symsOf]
    rw [e]
    cases a with
    | zero =>
      rw [Nat.zero_mul, Nat.zero_add, List.getElem?_append_left (by omega)]
      simp
    | succ a =>
      rw [List.getElem?_append_right (by rw [hm, Nat.succ_mul]; omega), hm, Nat.succ_mul, show a * z + z + p - z = a * z + p from by omega, ih (fun x hx => h x (by simp [hx])) a p (by simpa using ha) hp]
      simp
theorem block_back {r : Rt} {objs : List ByteArray} (hr : ROk r) (h : Hon r objs) {o b : Nat} (hl : (r.come o b).length = r.n.many (objs.getD o ⟨#[]⟩).size b) (hk0 : 0 < r.n.many (objs.getD o ⟨#[]⟩).size b) :
    r.blockOf o b = filledB r.n (objs.getD o ⟨#[]⟩) b := by
  obtain ⟨h1, h2, h3, h4, h5⟩ := hr.nok
  have hm8 := many_le r.n (objs.getD o ⟨#[]⟩).size b
  have hfl := filledB_length r.n (objs.getD o ⟨#[]⟩) b
  unfold Rt.blockOf
  simp only []
  obtain ⟨l, hL⟩ : ∃ l, l = r.come o b := ⟨_, rfl⟩
  have hap := num_apart r hr o b
  have hna := num_at r hr o b
  have hco := fun m (hm : m ∈ r.come o b) => h.come hm
  rw [← hL] at hl hap hna hco ⊢
  have hsz : ∀ m ∈ l, m.sym.size = r.n.size := fun m hm => (hr.hd m (come_mem (by rw [← hL]; exact hm))).2.2
  clear hL
  obtain ⟨k, hk⟩ : ∃ k, k = r.n.many (objs.getD o ⟨#[]⟩).size b := ⟨_, rfl⟩
  rw [← hk] at hl hk0 hm8 hfl hco
  rw [hl]
  rw [hl] at hap
  have hna' : ∀ i, i < k → numAt l i < 16 ∧ ∀ hi : i < l.length, l[i].num = (numAt l i : Int) := fun i hi => ⟨(hna i (by omega)).1, fun hi' => (hna i hi').2⟩
  clear hna
  obtain ⟨X, hX⟩ : ∃ X, X = filledB r.n (objs.getD o ⟨#[]⟩) b := ⟨_, rfl⟩
  rw [← hX] at hfl ⊢
  have hsym : ∀ num, symOf r.n (objs.getD o ⟨#[]⟩) b num = flat r.n.size (symF k id (txt X) r.n.size num) 1 := fun num => by unfold symOf; rw [hk, hX]
  generalize objs.getD o ⟨#[]⟩ = ob at *
  generalize r.n.size = z at *
  have hy : ∀ a p, a < k → p < z → byteAt (txt (symsOf l)) (a * z + p) = lag' k X z (numAt l a) p := by
    intro a p ha hp
    have hal : a < l.length := by omega
    obtain ⟨num, _, e⟩ := hco l[a] (List.getElem_mem hal)
    have hnum : numAt l a = num := by
      have := (hna' a ha).2 hal
      rw [e] at this
      have e2 : ((num : Nat) : Int) = ((numAt l a : Nat) : Int) := this
      omega
    show (symsOf l).getD (a * z + p) 0 = _
    rw [List.getD_eq_getElem?_getD, symsOf_at z h1 l hsz a p hal hp, List.getElem?_eq_getElem hal]
    show (l[a].sym.data.toList[p]?).getD 0 = _
    rw [e]
    show ((symOf r.n ob b num)[p]?).getD 0 = _
    rw [hsym, hnum]
    unfold lag'
    simp [flat, hp]
  refine List.ext_getElem? (fun a => ?_)
  by_cases ha : a < k * z
  · rw [flat_get z _ k a ha]
    have hc : a / z < k := Nat.div_lt_of_lt_mul (by rw [Nat.mul_comm]; exact ha)
    have hp : a % z < z := Nat.mod_lt _ h1
    have hap2 : Pol.Apart k (gx (numAt l)) := Cod.apart_of (fun i hi => (hna' i hi).1) hap
    have hap1 : Pol.Apart k (gx id) := Cod.apart_of (fun i hi => by show i < 16; omega) (fun i j _ _ h => h)
    have e1 : symF k (numAt l) (txt (symsOf l)) z 0 (a / z) (a % z) = byteAt (txt X) (a / z * z + a % z) := by
      unfold symF
      rw [Pol.lag_congr (us := fun i => Pol.lag k (gx id) (fun i => byteAt (txt X) (i * z + a % z)) (gx (numAt l) i)) (fun i hi => by rw [hy i (a % z) hi hp]; unfold lag' symF; rw [Nat.add_zero]; rfl), Nat.zero_add]
      exact Pol.lag_back hap1 hap2 _ (a / z) hc
    have e2 : a / z * z + a % z = a := by rw [Nat.mul_comm]; exact Nat.div_add_mod a z
    rw [e1, e2]
    show some (X.getD a 0) = _
    rw [List.getD_eq_getElem?_getD, List.getElem?_eq_getElem (by omega)]; rfl
  · rw [List.getElem?_eq_none (by rw [flat_length]; omega), List.getElem?_eq_none (by omega)]
/-- an object's first bytes, filled up -/
def upTo (o : ByteArray) (j : Nat) : List UInt8 := (List.range j).map (fun i => o.data.toList.getD i 0)
theorem objTo_back {r : Rt} {objs : List ByteArray} (hr : ROk r) (h : Hon r objs) {o : Nat} (hw : Whole r o) : ∀ j, j ≤ r.n.blocks (r.len o) → objTo r o j = upTo (objs.getD o ⟨#[]⟩) (min (j * r.n.block) (r.n.all (r.len o)) * r.n.size) := by
  obtain ⟨hol, hlen⟩ := h.len hw.1
  intro j
  induction j with
  | zero => intro _; simp [objTo, upTo]
  | succ j ih =>
    intro hj
    have hlt : j < r.n.blocks (r.len o) := by omega
    have hc := hw.2 j hlt
    have hpos := many_pos r.n hr.nok (r.len o) j hlt
    rw [hlen] at hc hpos
    rw [objTo_succ, ih (by omega), block_back hr h hc hpos, ← many_sum r.n hr.nok (r.len o) j (by omega), Nat.add_mul]
    have hjb : j * r.n.block < r.n.all (r.len o) := by
      rw [← hlen] at hpos
      unfold Nm.many at hpos
      omega
    rw [Nat.min_eq_left (by omega)]
    unfold upTo filledB
    rw [List.range_add, List.map_append, List.map_map, hlen]
    rfl
theorem obj_back {r : Rt} {objs : List ByteArray} (hr : ROk r) (h : Hon r objs) {o : Nat} (hw : Whole r o) : txt (r.obj o) = objs.getD o ⟨#[]⟩ := by
  obtain ⟨hol, hlen⟩ := h.len hw.1
  have hen := objTo_enough r hr o hw
  have e : r.obj o = (objTo r o (r.n.blocks (r.len o))).take (r.len o) := rfl
  rw [e, objTo_back hr h hw _ (Nat.le_refl _)]
  rw [objTo_back hr h hw _ (Nat.le_refl _)] at hen
  generalize min (r.n.blocks (r.len o) * r.n.block) (r.n.all (r.len o)) * r.n.size = T at *
  have hT : r.len o ≤ T := by simpa [upTo] using hen
  rw [hlen] at hT ⊢
  apply ByteArray.ext
  apply Array.ext'
  show (upTo (objs.getD o ⟨#[]⟩) T).take _ = _
  generalize objs.getD o ⟨#[]⟩ = ob at *
  refine List.ext_getElem? (fun a => ?_)
  have hbl : ob.data.toList.length = ob.size := by rw [Array.length_toList]; rfl
  by_cases ha : a < ob.size
  · rw [List.getElem?_take, if_pos ha]
    unfold upTo
    rw [List.getElem?_map, List.getElem?_range (by omega)]
    simp only [Option.map_some]
    rw [List.getD_eq_getElem?_getD, List.getElem?_eq_getElem (by omega)]; rfl
  · rw [List.getElem?_take, if_neg ha, List.getElem?_eq_none (by omega)]
end Sn
end Go.Proofs.Ytkgnmcekeeannab
