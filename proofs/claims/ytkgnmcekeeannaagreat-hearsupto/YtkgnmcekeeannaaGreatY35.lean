import Derived.Test.YtkgnmcekeeannaaGreatY34
import Derived.StillTailTactics
/-
  How the landed receiver's memory turns: one more object, an object begun, a number more, a byte more, an object taken.
-/
namespace Go.Proofs.YtkgnmcekeeannaaGreat
open Go.RowKit Go.Deep
namespace Sn
open Bs
open Ms (M It txt text ok owns_setCell)
set_option linter.unusedVariables false

def upd1 (f : Nat → Nat) (i v : Nat) : Nat → Nat := fun i' => if i' = i then v else f i'
def updL {α : Type} (f : Nat → Nat → α) (i b : Nat) (v : α) : Nat → Nat → α := fun i' b' => if i' = i ∧ b' = b then v else f i' b'
theorem gcells_set {r r' : LR} {D D' : Nat → Nat} {n o : Nat} {a v : Value} (ho : o < n) (h1 : ∀ i, i < n → i ≠ o → r'.ln i = r.ln i) (h2 : ∀ i, i < n → i ≠ o → gval r' D' i = gval r D i) (h3 : a = .int .i64 (r'.ln o)) (h4 : v = gval r' D' o) :
    ((gcells r D n).set (o * 2) a).set (o * 2 + 1) v = gcells r' D' n := by
  apply List.ext_getElem?
  intro j
  by_cases hj : j < n * 2
  · rw [List.getElem?_set, List.getElem?_set, gcells_get r' D' n j hj, gcells_get r D n j hj]
    simp only [List.length_set, gcells_length]
    by_cases e1 : o * 2 + 1 = j
    · subst e1
      rw [if_pos rfl, if_pos hj]
      unfold gcell
      rw [if_neg (by omega), show (o * 2 + 1) / 2 = o from by omega, h4]
    · rw [if_neg e1]
      by_cases e2 : o * 2 = j
      · subst e2
        rw [if_pos rfl, if_pos hj]
        unfold gcell
        rw [if_pos (by omega), show o * 2 / 2 = o from by omega, h3]
      · rw [if_neg e2]
        unfold gcell
        rw [h1 _ (by omega) (by omega), h2 _ (by omega) (by omega)]
  · rw [List.getElem?_eq_none (by simp [gcells_length]; omega), List.getElem?_eq_none (by simp [gcells_length]; omega)]
theorem gcells_set1 {r r' : LR} {D D' : Nat → Nat} {n o : Nat} {v : Value} (ho : o < n) (h1 : ∀ i, i < n → r'.ln i = r.ln i) (h2 : ∀ i, i < n → i ≠ o → gval r' D' i = gval r D i) (h4 : v = gval r' D' o) :
    (gcells r D n).set (o * 2 + 1) v = gcells r' D' n := by
  apply List.ext_getElem?
  intro j
  by_cases hj : j < n * 2
  · rw [List.getElem?_set, gcells_get r' D' n j hj, gcells_get r D n j hj]
    simp only [gcells_length]
    by_cases e1 : o * 2 + 1 = j
    · subst e1
      rw [if_pos rfl, if_pos hj]
      unfold gcell
      rw [if_neg (by omega), show (o * 2 + 1) / 2 = o from by omega, h4]
    · rw [if_neg e1]
      unfold gcell
      rw [h1 _ (by omega)]
      by_cases e2 : j % 2 = 0
      · rw [if_pos e2, if_pos e2]
      · rw [if_neg e2, if_neg e2, h2 _ (by omega) (by omega)]
  · rw [List.getElem?_eq_none (by simp [gcells_length]; omega), List.getElem?_eq_none (by simp [gcells_length]; omega)]
section
variable {w W w2 : World} {P : Nat} {r : LR} {F G : Nat → Prop} {K : Nat → Slot} {ao : Option Addr} {co : Nat} {D : Nat → Nat} {nv sv : Nat → Nat → Value}
theorem LRI.lts (h : LRI w P r F K ao co D nv sv) : P < w.heap.size ∧ (∀ x, (Value.slice ao r.kn co).ownBlock = some x → x < w.heap.size) ∧ (∀ o, r.live o → D o < w.heap.size) ∧ (∀ o b x, r.live o → b < r.bks o → (nv o b).ownBlock = some x → x < w.heap.size) ∧ (∀ o b x, r.live o → b < r.bks o → (sv o b).ownBlock = some x → x < w.heap.size) :=
  ⟨h.row.lt, fun x hx => (h.ob.lt x hx).2, fun o ho => (h.bl o ho).lt, fun o b x h1 h2 hx => ((h.nu o b h1 h2).lt x hx).2, fun o b x h1 h2 hx => ((h.sy o b h1 h2).lt x hx).2⟩
theorem painted_F {s : Slot} {z : Nat} (h : ∀ x, x < w.heap.size → K x ≠ .no → F x) (hG : ∀ b, F b → G b) (hGn : ∀ b, w.heap.size ≤ b → b < z → G b) : ∀ x, x < z → painted K s w.heap.size x ≠ .no → G x := fun x hx hk => by
  by_cases e : w.heap.size ≤ x
  · exact hGn x e hx
  · rw [painted_old (by omega)] at hk; exact hG _ (h x (by omega) hk)
theorem LRI.know {ao2 : Option Addr} {co2 : Nat} (h : LRI w P r F K ao co D nv sv)
    (hown : w2.ownsRow 0 125 2 (.slice ao2 (r.kn + 1) co2) (r.kn + 1) (gcells r D r.kn ++ [.int .i64 0, .slice none 0 0]))
    (hg : w.grownBy w2 (Value.slice ao r.kn co).ownBlock) (hat : ∀ x, (Value.slice ao2 (r.kn + 1) co2).ownBlock = some x → (Value.slice ao r.kn co).ownBlock = some x ∨ w.heap.size ≤ x)
    (hG : ∀ b, F b → G b) (hGn : ∀ b, w.heap.size ≤ b → b < w2.heap.size → G b) :
    LRI (w2.setCell ⟨P, 3, none⟩ (.slice ao2 (r.kn + 1) co2)) P { r with kn := r.kn + 1 } G (painted K .objs w.heap.size) ao2 co2 D nv sv := by
  obtain ⟨l1, l2, l3, l4, l5⟩ := h.lts
  have hz := hg.size
  have h0 : r.ln r.kn = 0 := h.hi _ (Nat.le_refl _)
  have live : ∀ o, ({ r with kn := r.kn + 1 } : LR).live o → r.live o := fun o ⟨a, b, c⟩ => ⟨by
    rcases Nat.lt_or_ge o r.kn with e | e
    · exact e
    · exact absurd (h.hi o e) b, b, c⟩
  have blk : ∀ x, x < w.heap.size → K x ≠ .objs → w2.heap[x]? = w.heap[x]? := fun x hx hk => hg.block x hx (fun e => hk (h.ko x e.symm))
  have blk3 : ∀ x, x < w.heap.size → K x ≠ .objs → K x ≠ .rcv → (w2.setCell ⟨P, 3, none⟩ (.slice ao2 (r.kn + 1) co2)).heap[x]? = w.heap[x]? := fun x hx hk hr => by
    rw [heap_setCell_other _ _ _ _ (fun e => hr (by rw [e]; exact h.kP)), blk x hx hk]
  have hoP : (Value.slice ao2 (r.kn + 1) co2).ownBlock ≠ some P := fun e => by
    rcases hat _ e with e' | e'
    · have := h.ko P e'; rw [h.kP] at this; simp at this
    · omega
  refine ⟨?_, ?_, fun o ho => ?_, fun o b ho hb => ?_, fun o b ho hb => ?_, ?_, fun x hx => ?_, fun o ho => ?_, fun o b x ho hb hx => ?_, fun o b x ho hb hx => ?_, ?_, fun o ho => h.hi o (by simp only at ho; omega), h.tl⟩
  · refine ((h.row.of_block (blk P l1 (by rw [h.kP]; simp))).set 3 _).congr (fun j hj => ?_)
    match j, hj with
    | 0, _ => rfl
    | 1, _ => rfl
    | 2, _ => rfl
    | 3, _ => rfl
    | 4, _ => rfl
  · have e : gcells { r with kn := r.kn + 1 } D (r.kn + 1) = gcells r D r.kn ++ [.int .i64 0, .slice none 0 0] := by
      rw [gcells_succ]
      congr 1
      show [Value.int .i64 ((r.ln r.kn : Nat) : Int), gval { r with kn := r.kn + 1 } D r.kn] = _
      unfold gval
      simp [h0]
    show World.ownsRow _ 0 _ 2 _ (r.kn + 1) (gcells { r with kn := r.kn + 1 } D (r.kn + 1))
    rw [e]
    exact owns_setCell hown hoP
  · have ho' := live o ho
    exact (h.bl o ho').of_block (blk3 _ (l3 o ho') (by rw [h.kb o ho']; simp) (by rw [h.kb o ho']; simp))
  · have ho' := live o ho
    exact owns_still (h.nu o b ho' hb) (fun x hx => blk3 x (l4 o b x ho' hb hx) (by rw [h.kn o b x ho' hb hx]; simp) (by rw [h.kn o b x ho' hb hx]; simp))
  · have ho' := live o ho
    exact owns_still (h.sy o b ho' hb) (fun x hx => blk3 x (l5 o b x ho' hb hx) (by rw [h.ks o b x ho' hb hx]; simp) (by rw [h.ks o b x ho' hb hx]; simp))
  · rw [painted_old l1]; exact h.kP
  · rcases hat _ hx with hx' | e'
    · rw [painted_old (l2 x hx')]; exact h.ko x hx'
    · exact painted_new e'
  · have ho' := live o ho
    rw [painted_old (l3 o ho')]; exact h.kb o ho'
  · have ho' := live o ho
    rw [painted_old (l4 o b x ho' hb hx)]; exact h.kn o b x ho' hb hx
  · have ho' := live o ho
    rw [painted_old (l5 o b x ho' hb hx)]; exact h.ks o b x ho' hb hx
  · exact painted_F h.kF hG (fun b h1 h2 => hGn b h1 (by simpa using h2))
theorem LRI.begin {g N o L : Nat} (h : LRI w P r F K (some ⟨g, 0, none⟩) co D nv sv) (hW : Below w.heap.size w W) (hN : w.heap.size ≤ N) (ho : o < r.kn) (h0 : r.ln o = 0) (hL : L ≠ 0)
    (rN : W.rowIs N 143 (r.n.blocks L * 2) (fun _ => .slice none 0 0)) (e1 : ∀ b, r.nm o b = []) (e2 : ∀ b, r.sm o b = []) (hG : ∀ b, F b → G b) (hGn : ∀ b, w.heap.size ≤ b → b < W.heap.size → G b) :
    LRI ((W.setCell ⟨g, o * 2, none⟩ (.int .i64 L)).setCell ⟨g, o * 2 + 1, none⟩ (.slice (some ⟨N, 0, none⟩) (r.n.blocks L) (r.n.blocks L))) P { r with ln := upd1 r.ln o L } G (painted K (.blks o) w.heap.size) (some ⟨g, 0, none⟩) co (upd1 D o N) (fun i b => if i = o then .slice none 0 0 else nv i b) (fun i b => if i = o then .slice none 0 0 else sv i b) := by
  obtain ⟨l1, l2, l3, l4, l5⟩ := h.lts
  have htk : r.tk ≤ o := by
    rcases Nat.lt_or_ge o r.tk with e | e
    · exact absurd h0 (h.tl o e)
    · exact e
  have hNl := rN.lt
  have hgl := l2 g rfl
  have hgK : K g = .objs := h.ko g rfl
  have live : ∀ i, i ≠ o → ({ r with ln := upd1 r.ln o L } : LR).live i → r.live i := fun i hi ⟨a, b, c⟩ => ⟨a, by simp only [upd1, if_neg hi] at b; exact b, c⟩
  have bks : ∀ i, i ≠ o → ({ r with ln := upd1 r.ln o L } : LR).bks i = r.bks i := fun i hi => by simp [LR.bks, upd1, hi]
  have bko : ({ r with ln := upd1 r.ln o L } : LR).bks o = r.n.blocks L := by simp [LR.bks, upd1]
  have blk : ∀ x, x ≠ g → ((W.setCell ⟨g, o * 2, none⟩ (.int .i64 L)).setCell ⟨g, o * 2 + 1, none⟩ (.slice (some ⟨N, 0, none⟩) (r.n.blocks L) (r.n.blocks L))).heap[x]? = W.heap[x]? := fun x hx => by
    rw [heap_setCell_other _ _ _ _ hx, heap_setCell_other _ _ _ _ hx]
  have blk2 : ∀ x, x < w.heap.size → K x ≠ .objs → ((W.setCell ⟨g, o * 2, none⟩ (.int .i64 L)).setCell ⟨g, o * 2 + 1, none⟩ (.slice (some ⟨N, 0, none⟩) (r.n.blocks L) (r.n.blocks L))).heap[x]? = w.heap[x]? := fun x hx hk => by
    rw [blk x (fun e => hk (by rw [e]; exact hgK)), hW.block x hx]
  refine ⟨?_, ?_, fun i hi => ?_, fun i b hi hb => ?_, fun i b hi hb => ?_, ?_, fun x hx => ?_, fun i hi => ?_, fun i b x hi hb hx => ?_, fun i b x hi hb hx => ?_, ?_, fun i hi => ?_, fun i hi => ?_⟩
  · exact h.row.of_block (blk2 P l1 (by rw [h.kP]; simp))
  · have q := ((Ms.owns_below h.ob hW).stored (o * 2) (.int .i64 L)).1
    have q2 := (q.stored (o * 2 + 1) (.slice (some ⟨N, 0, none⟩) (r.n.blocks L) (r.n.blocks L))).1
    have e : ((gcells r D r.kn).set (o * 2) (.int .i64 L)).set (o * 2 + 1) (.slice (some ⟨N, 0, none⟩) (r.n.blocks L) (r.n.blocks L)) = gcells { r with ln := upd1 r.ln o L } (upd1 D o N) r.kn := by
      refine gcells_set ho (fun i _ hi => by simp [upd1, hi]) (fun i _ hi => ?_) (by simp [upd1]) ?_
      · unfold gval; rw [bks i hi]; simp [upd1, hi]
      · unfold gval; rw [bko]; simp [upd1, hL, htk]
    rw [e] at q2
    exact q2
  · by_cases e : i = o
    · subst e
      rw [bko]
      have : upd1 D i N i = N := by simp [upd1]
      rw [this]
      refine (rN.of_block (blk N (by omega))).congr (fun j hj => ?_)
      simp [bRow]
    · rw [bks i e]
      have hi' := live i e hi
      have : upd1 D o N i = D i := by simp [upd1, e]
      rw [this]
      refine ((h.bl i hi').of_block (blk2 _ (l3 i hi') (by rw [h.kb i hi']; simp))).congr (fun j hj => ?_)
      simp [bRow, e]
  · by_cases e : i = o
    · subst e
      simp only [if_true, e1]
      exact World.ownsRow_nil _ _ _ _
    · rw [bks i e] at hb
      have hi' := live i e hi
      simp only [if_neg e]
      exact owns_still (h.nu i b hi' hb) (fun x hx => blk2 x (l4 i b x hi' hb hx) (by rw [h.kn i b x hi' hb hx]; simp))
  · by_cases e : i = o
    · subst e
      simp only [if_true, e2]
      exact World.ownsRow_nil _ _ _ _
    · rw [bks i e] at hb
      have hi' := live i e hi
      simp only [if_neg e]
      exact owns_still (h.sy i b hi' hb) (fun x hx => blk2 x (l5 i b x hi' hb hx) (by rw [h.ks i b x hi' hb hx]; simp))
  · rw [painted_old l1]; exact h.kP
  · rw [painted_old (l2 x hx)]; exact h.ko x hx
  · by_cases e : i = o
    · subst e
      have : upd1 D i N i = N := by simp [upd1]
      rw [this]; exact painted_new hN
    · have hi' := live i e hi
      have : upd1 D o N i = D i := by simp [upd1, e]
      rw [this, painted_old (l3 i hi')]; exact h.kb i hi'
  · by_cases e : i = o
    · subst e
      simp [Value.ownBlock] at hx
    · rw [bks i e] at hb
      have hi' := live i e hi
      simp only [if_neg e] at hx
      rw [painted_old (l4 i b x hi' hb hx)]; exact h.kn i b x hi' hb hx
  · by_cases e : i = o
    · subst e
      simp [Value.ownBlock] at hx
    · rw [bks i e] at hb
      have hi' := live i e hi
      simp only [if_neg e] at hx
      rw [painted_old (l5 i b x hi' hb hx)]; exact h.ks i b x hi' hb hx
  · exact painted_F h.kF hG (fun b h1 h2 => hGn b h1 (by simpa using h2))
  · have : i ≠ o := fun e => by simp only at hi; omega
    simp only [upd1, if_neg this]; exact h.hi i hi
  · have : i ≠ o := fun e => by simp only at hi; omega
    simp only [upd1, if_neg this]; exact h.tl i hi
theorem LRI.addNum {o b c : Nat} {x : Int} {v' : Value} (h : LRI w P r F K ao co D nv sv) (ho : r.live o) (hb : b < r.bks o) (hc : (r.nm o b).length = c)
    (hown : w2.ownsRow 0 3 1 v' (c + 1) (ints (r.nm o b) ++ [.int .i64 x])) (hg : w.grownBy w2 (nv o b).ownBlock) (hat : ∀ x, v'.ownBlock = some x → (nv o b).ownBlock = some x ∨ w.heap.size ≤ x)
    (hG : ∀ b, F b → G b) (hGn : ∀ b, w.heap.size ≤ b → b < w2.heap.size → G b) :
    LRI (w2.setCell ⟨D o, b * 2, none⟩ v') P { r with nm := updL r.nm o b (r.nm o b ++ [x]) } G (painted K (.nums o b) w.heap.size) ao co D (updL nv o b v') sv := by
  obtain ⟨l1, l2, l3, l4, l5⟩ := h.lts
  have hz := hg.size
  have hDl := l3 o ho
  have blk : ∀ y, y < w.heap.size → K y ≠ .nums o b → w2.heap[y]? = w.heap[y]? := fun y hy hk => hg.block y hy (fun e => hk (h.kn o b y ho hb e.symm))
  have blk3 : ∀ y, y < w.heap.size → K y ≠ .nums o b → K y ≠ .blks o → (w2.setCell ⟨D o, b * 2, none⟩ v').heap[y]? = w.heap[y]? := fun y hy hk hr => by
    rw [heap_setCell_other _ _ _ _ (fun e => hr (by rw [e]; exact h.kb o ho)), blk y hy hk]
  have hvD : v'.ownBlock ≠ some (D o) := fun e => by
    rcases hat _ e with e' | e'
    · have := h.kn o b _ ho hb e'; rw [h.kb o ho] at this; simp at this
    · omega
  have ne : ∀ i j, ¬ (i = o ∧ j = b) → Slot.nums i j ≠ Slot.nums o b := fun i j hn e => hn ⟨congrArg Slot.o e, congrArg Slot.b e⟩
  refine ⟨h.row.of_block (blk3 P l1 (by rw [h.kP]; simp) (by rw [h.kP]; simp)), owns_still h.ob (fun y hy => blk3 y (l2 y hy) (by rw [h.ko y hy]; simp) (by rw [h.ko y hy]; simp)), fun i hi => ?_, fun i j hi hj => ?_, fun i j hi hj => owns_still (h.sy i j hi hj) (fun y hy => blk3 y (l5 i j y hi hj hy) (by rw [h.ks i j y hi hj hy]; simp) (by rw [h.ks i j y hi hj hy]; simp)), by rw [painted_old l1]; exact h.kP, fun y hy => by rw [painted_old (l2 y hy)]; exact h.ko y hy, fun i hi => by rw [painted_old (l3 i hi)]; exact h.kb i hi, fun i j y hi hj hy => ?_, fun i j y hi hj hy => by rw [painted_old (l5 i j y hi hj hy)]; exact h.ks i j y hi hj hy, painted_F h.kF hG (fun b h1 h2 => hGn b h1 (by simpa using h2)), h.hi, h.tl⟩
  · by_cases e : i = o
    · subst e
      refine (((h.bl i hi).of_block (blk _ hDl (by rw [h.kb i hi]; simp))).set (b * 2) _).congr (fun j hj => ?_)
      unfold bRow updL
      by_cases e : j = b * 2
      · subst e; simp [show b * 2 / 2 = b from by omega]
      · rw [if_neg e]
        by_cases e2 : j % 2 = 0
        · have : j / 2 ≠ b := by omega
          simp [e2, this]
        · simp [e2]
    · have e3 : K (D i) ≠ .blks o := fun q => by rw [h.kb i hi] at q; exact e (congrArg Slot.o q)
      refine ((h.bl i hi).of_block (blk3 _ (l3 i hi) (by rw [h.kb i hi]; simp) e3)).congr (fun j hj => ?_)
      simp [bRow, updL, e]
  · by_cases e : i = o ∧ j = b
    · obtain ⟨rfl, rfl⟩ := e
      have e1 : updL r.nm i j (r.nm i j ++ [x]) i j = r.nm i j ++ [x] := by simp [updL]
      have e2 : updL nv i j v' i j = v' := by simp [updL]
      show World.ownsRow _ 0 _ 1 (updL nv i j v' i j) (updL r.nm i j (r.nm i j ++ [x]) i j).length (ints (updL r.nm i j (r.nm i j ++ [x]) i j))
      rw [e1, e2]
      have e3 : (r.nm i j ++ [x]).length = c + 1 := by simp [hc]
      have e4 : ints (r.nm i j ++ [x]) = ints (r.nm i j) ++ [.int .i64 x] := by simp [ints]
      rw [e3, e4]
      exact owns_setCell hown hvD
    · have e1 : updL r.nm o b (r.nm o b ++ [x]) i j = r.nm i j := by simp [updL, e]
      have e2 : updL nv o b v' i j = nv i j := by simp [updL, e]
      show World.ownsRow _ 0 _ 1 (updL nv o b v' i j) (updL r.nm o b (r.nm o b ++ [x]) i j).length (ints (updL r.nm o b (r.nm o b ++ [x]) i j))
      rw [e1, e2]
      exact owns_still (h.nu i j hi hj) (fun y hy => blk3 y (l4 i j y hi hj hy) (by rw [h.kn i j y hi hj hy]; exact ne i j e) (by rw [h.kn i j y hi hj hy]; simp))
  · by_cases e : i = o ∧ j = b
    · obtain ⟨rfl, rfl⟩ := e
      have e2 : updL nv i j v' i j = v' := by simp [updL]
      rw [e2] at hy
      rcases hat _ hy with hy' | e'
      · rw [painted_old (l4 i j y hi hj hy')]; exact h.kn i j y hi hj hy'
      · exact painted_new e'
    · have e2 : updL nv o b v' i j = nv i j := by simp [updL, e]
      rw [e2] at hy
      rw [painted_old (l4 i j y hi hj hy)]; exact h.kn i j y hi hj hy
theorem LRI.addSym {o b c : Nat} {x : UInt8} {v' : Value} (h : LRI w P r F K ao co D nv sv) (ho : r.live o) (hb : b < r.bks o) (hc : (r.sm o b).length = c)
    (hown : w2.ownsRow 0 5 1 v' (c + 1) ((r.sm o b).map bv ++ [bv x])) (hg : w.grownBy w2 (sv o b).ownBlock) (hat : ∀ x, v'.ownBlock = some x → (sv o b).ownBlock = some x ∨ w.heap.size ≤ x)
    (hG : ∀ b, F b → G b) (hGn : ∀ b, w.heap.size ≤ b → b < w2.heap.size → G b) :
    LRI (w2.setCell ⟨D o, b * 2 + 1, none⟩ v') P { r with sm := updL r.sm o b (r.sm o b ++ [x]) } G (painted K (.syms o b) w.heap.size) ao co D nv (updL sv o b v') := by
  obtain ⟨l1, l2, l3, l4, l5⟩ := h.lts
  have hz := hg.size
  have hDl := l3 o ho
  have blk : ∀ y, y < w.heap.size → K y ≠ .syms o b → w2.heap[y]? = w.heap[y]? := fun y hy hk => hg.block y hy (fun e => hk (h.ks o b y ho hb e.symm))
  have blk3 : ∀ y, y < w.heap.size → K y ≠ .syms o b → K y ≠ .blks o → (w2.setCell ⟨D o, b * 2 + 1, none⟩ v').heap[y]? = w.heap[y]? := fun y hy hk hr => by
    rw [heap_setCell_other _ _ _ _ (fun e => hr (by rw [e]; exact h.kb o ho)), blk y hy hk]
  have hvD : v'.ownBlock ≠ some (D o) := fun e => by
    rcases hat _ e with e' | e'
    · have := h.ks o b _ ho hb e'; rw [h.kb o ho] at this; simp at this
    · omega
  have ne : ∀ i j, ¬ (i = o ∧ j = b) → Slot.syms i j ≠ Slot.syms o b := fun i j hn e => hn ⟨congrArg Slot.o e, congrArg Slot.b e⟩
  refine ⟨h.row.of_block (blk3 P l1 (by rw [h.kP]; simp) (by rw [h.kP]; simp)), owns_still h.ob (fun y hy => blk3 y (l2 y hy) (by rw [h.ko y hy]; simp) (by rw [h.ko y hy]; simp)), fun i hi => ?_, fun i j hi hj => owns_still (h.nu i j hi hj) (fun y hy => blk3 y (l4 i j y hi hj hy) (by rw [h.kn i j y hi hj hy]; simp) (by rw [h.kn i j y hi hj hy]; simp)), fun i j hi hj => ?_, by rw [painted_old l1]; exact h.kP, fun y hy => by rw [painted_old (l2 y hy)]; exact h.ko y hy, fun i hi => by rw [painted_old (l3 i hi)]; exact h.kb i hi, fun i j y hi hj hy => by rw [painted_old (l4 i j y hi hj hy)]; exact h.kn i j y hi hj hy, fun i j y hi hj hy => ?_, painted_F h.kF hG (fun b h1 h2 => hGn b h1 (by simpa using h2)), h.hi, h.tl⟩
  · by_cases e : i = o
    · subst e
      refine (((h.bl i hi).of_block (blk _ hDl (by rw [h.kb i hi]; simp))).set (b * 2 + 1) _).congr (fun j hj => ?_)
      unfold bRow updL
      by_cases e : j = b * 2 + 1
      · subst e; simp [show (b * 2 + 1) / 2 = b from by omega]
      · rw [if_neg e]
        by_cases e2 : j % 2 = 0
        · simp [e2]
        · have : j / 2 ≠ b := by omega
          simp [e2, this]
    · have e3 : K (D i) ≠ .blks o := fun q => by rw [h.kb i hi] at q; exact e (congrArg Slot.o q)
      refine ((h.bl i hi).of_block (blk3 _ (l3 i hi) (by rw [h.kb i hi]; simp) e3)).congr (fun j hj => ?_)
      simp [bRow, updL, e]
  · by_cases e : i = o ∧ j = b
    · obtain ⟨rfl, rfl⟩ := e
      have e1 : updL r.sm i j (r.sm i j ++ [x]) i j = r.sm i j ++ [x] := by simp [updL]
      have e2 : updL sv i j v' i j = v' := by simp [updL]
      show World.ownsRow _ 0 _ 1 (updL sv i j v' i j) (updL r.sm i j (r.sm i j ++ [x]) i j).length ((updL r.sm i j (r.sm i j ++ [x]) i j).map bv)
      rw [e1, e2]
      have e3 : (r.sm i j ++ [x]).length = c + 1 := by simp [hc]
      have e4 : (r.sm i j ++ [x]).map bv = (r.sm i j).map bv ++ [bv x] := by simp
      rw [e3, e4]
      exact owns_setCell hown hvD
    · have e1 : updL r.sm o b (r.sm o b ++ [x]) i j = r.sm i j := by simp [updL, e]
      have e2 : updL sv o b v' i j = sv i j := by simp [updL, e]
      show World.ownsRow _ 0 _ 1 (updL sv o b v' i j) (updL r.sm o b (r.sm o b ++ [x]) i j).length ((updL r.sm o b (r.sm o b ++ [x]) i j).map bv)
      rw [e1, e2]
      exact owns_still (h.sy i j hi hj) (fun y hy => blk3 y (l5 i j y hi hj hy) (by rw [h.ks i j y hi hj hy]; exact ne i j e) (by rw [h.ks i j y hi hj hy]; simp))
  · by_cases e : i = o ∧ j = b
    · obtain ⟨rfl, rfl⟩ := e
      have e2 : updL sv i j v' i j = v' := by simp [updL]
      rw [e2] at hy
      rcases hat _ hy with hy' | e'
      · rw [painted_old (l5 i j y hi hj hy')]; exact h.ks i j y hi hj hy'
      · exact painted_new e'
    · have e2 : updL sv o b v' i j = sv i j := by simp [updL, e]
      rw [e2] at hy
      rw [painted_old (l5 i j y hi hj hy)]; exact h.ks i j y hi hj hy
theorem LRI.taken {g : Nat} (h : LRI w P r F K (some ⟨g, 0, none⟩) co D nv sv) (ho : r.tk < r.kn) (h0 : r.ln r.tk ≠ 0) :
    LRI ((w.setCell ⟨g, r.tk * 2 + 1, none⟩ (.slice none 0 0)).setCell ⟨P, 4, none⟩ (.int .i64 (r.tk + 1 : Nat))) P { r with tk := r.tk + 1 } F K (some ⟨g, 0, none⟩) co D nv sv := by
  obtain ⟨l1, l2, l3, l4, l5⟩ := h.lts
  have hgK : K g = .objs := h.ko g rfl
  have hgP : g ≠ P := fun e => by rw [e, h.kP] at hgK; simp at hgK
  have live : ∀ i, ({ r with tk := r.tk + 1 } : LR).live i → r.live i := fun i ⟨a, b, c⟩ => ⟨a, b, by simp only at c; omega⟩
  have blk : ∀ x, K x ≠ .objs → K x ≠ .rcv → ((w.setCell ⟨g, r.tk * 2 + 1, none⟩ (.slice none 0 0)).setCell ⟨P, 4, none⟩ (.int .i64 (r.tk + 1 : Nat))).heap[x]? = w.heap[x]? := fun x h1 h2 => by
    rw [heap_setCell_other _ _ _ _ (fun e => h2 (by rw [e]; exact h.kP)), heap_setCell_other _ _ _ _ (fun e => h1 (by rw [e]; exact hgK))]
  refine ⟨?_, ?_, fun i hi => (h.bl i (live i hi)).of_block (blk _ (by rw [h.kb i (live i hi)]; simp) (by rw [h.kb i (live i hi)]; simp)), fun i b hi hb => owns_still (h.nu i b (live i hi) hb) (fun x hx => blk x (by rw [h.kn i b x (live i hi) hb hx]; simp) (by rw [h.kn i b x (live i hi) hb hx]; simp)), fun i b hi hb => owns_still (h.sy i b (live i hi) hb) (fun x hx => blk x (by rw [h.ks i b x (live i hi) hb hx]; simp) (by rw [h.ks i b x (live i hi) hb hx]; simp)), h.kP, h.ko, fun i hi => h.kb i (live i hi), fun i b x hi hb hx => h.kn i b x (live i hi) hb hx, fun i b x hi hb hx => h.ks i b x (live i hi) hb hx, fun x hx hk => h.kF x (by simpa using hx) hk, h.hi, fun i hi => ?_⟩
  · refine ((h.row.setOther (a := ⟨g, r.tk * 2 + 1, none⟩) (fun e => hgP e.symm) _).set 4 _).congr (fun j hj => ?_)
    match j, hj with
    | 0, _ => rfl
    | 1, _ => rfl
    | 2, _ => rfl
    | 3, _ => rfl
    | 4, _ => rfl
  · have q := (h.ob.stored (r.tk * 2 + 1) (.slice none 0 0)).1
    have e : (gcells r D r.kn).set (r.tk * 2 + 1) (.slice none 0 0) = gcells { r with tk := r.tk + 1 } D r.kn := by
      refine gcells_set1 ho (fun i _ => rfl) (fun i _ hi => ?_) ?_
      · unfold gval LR.bks
        simp only
        by_cases e : r.ln i ≠ 0 ∧ r.tk ≤ i
        · rw [if_pos e, if_pos ⟨e.1, by omega⟩]
        · rw [if_neg e, if_neg (fun q => e ⟨q.1, by omega⟩)]
      · unfold gval
        rw [if_neg (fun q => by have := q.2; simp only at this; omega)]
    rw [e] at q
    exact owns_setCell q (fun e => hgP (by simpa [Value.ownBlock] using e))
  · simp only at hi ⊢
    by_cases e : i = r.tk
    · rw [e]; exact h0
    · exact h.tl i (by omega)
end
end Sn
end Go.Proofs.YtkgnmcekeeannaaGreat
/-
  The landed receiver's Known, length, knowOf.
-/
namespace Go.Proofs.YtkgnmcekeeannaaGreat
open Go.RowKit Go.Deep
namespace Sn
open Bs
open Ms (M It txt text ok owns_setCell Two two_block two_size two_grown two_new wpList_append_two)
set_option linter.unusedVariables false

set_option maxHeartbeats 1000000 in
theorem lanKnown (r : LR) (P : Nat) (F : Nat → Prop) (K : Nat → Slot) (ao : Option Addr) (co : Nat) (D : Nat → Nat) (nv sv : Nat → Nat → Value) (w : World) (hA : LRI w P r F K ao co D nv sv) :
    Calls Tryz.prog 49 #[.pointer (some ⟨P, 0, none⟩)] w fun e w' => e = .returned (.int .i64 r.kn) ∧ w' = w := by
  obtain ⟨_, _, _, c3, _⟩ := hA.cells
  clear hA
  go_enter Tryz.func49, Tryz.ntmps49
  go_wp2
  go_ret
  exact ⟨rfl, rfl⟩
set_option maxHeartbeats 1000000 in
theorem lanLength (r : LR) (o : Nat) (P : Nat) (F : Nat → Prop) (K : Nat → Slot) (ao : Option Addr) (co : Nat) (D : Nat → Nat) (nv sv : Nat → Nat → Value) (w : World) (hk : r.kn ≤ 8) (ho : o ≤ 65536) (hA : LRI w P r F K ao co D nv sv) :
    Calls Tryz.prog 85 #[.pointer (some ⟨P, 0, none⟩), .int .i64 o] w fun e w' => e = .returned (.int .i64 (r.ln o)) ∧ w' = w := by
  obtain ⟨_, _, _, c3, _⟩ := hA.cells
  by_cases h : o < r.kn
  · obtain ⟨g, rfl, hg, _, s0, _⟩ := hA.slot h
    clear hA
    generalize r.ln o = L at *
    generalize r.kn = N at *
    go_enter Tryz.func85, Tryz.ntmps85
    go_wp2
    go_ret
    exact ⟨rfl, rfl⟩
  · have e : r.ln o = 0 := hA.hi o (by omega)
    rw [e]
    have h' : r.kn ≤ o := by omega
    clear hA e h
    generalize r.kn = N at *
    go_enter Tryz.func85, Tryz.ntmps85
    go_wp2
    go_ret
    exact ⟨rfl, rfl⟩
def objLen (w : World) (P : Nat) : Nat := match w.cell? ⟨P, 3, none⟩ with | some (.slice _ n _) => n | _ => 0
theorem infoGa : (Tryz.prog.info? 125).map (fun i => (i.zero, i.size, i.bytes)) = some (some (.agg #[.int .i64 0, .slice none 0 0]), 2, 32) := by kernel_rfl
def KnowTo (w wr : World) (P : Nat) (r : LR) (F : Nat → Prop) (D : Nat → Nat) (nv sv : Nat → Nat → Value) (k : Nat) : Prop := (∃ K ao co, LRI wr P { r with kn := k } (grow F w wr) K ao co D nv sv) ∧ Touch w wr F
set_option maxHeartbeats 4000000 in
set_option maxRecDepth 100000 in
theorem lanKnowOf (r : LR) (c : Nat) (P : Nat) (F : Nat → Prop) (K : Nat → Slot) (ao : Option Addr) (co : Nat) (D : Nat → Nat) (nv sv : Nat → Nat → Value) (w : World) (hk : r.kn ≤ 8) (hc : c ≤ 8) (hA : LRI w P r F K ao co D nv sv) :
    Calls Tryz.prog 70 #[.pointer (some ⟨P, 0, none⟩), .int .i64 c] w fun e w' => e = .returned (.tuple #[]) ∧ KnowTo w w' P r F D nv sv (max r.kn c) := by
  have HK0 : Hid (KnowTo w w P r F D nv sv r.kn) := ⟨⟨K, ao, co, hA.mono (fun b hb _ => .inl hb)⟩, Touch.refl _ _⟩
  clear hA
  obtain ⟨i0, hi, hz0, hz1, hz2⟩ := info_parts3 infoGa
  go_enter Tryz.func70, Tryz.ntmps70
  go_wp2_with fail
  go_loopw [] (fun wr => ∃ k, r.kn ≤ k ∧ k ≤ max r.kn c ∧ Hid (KnowTo w wr P r F D nv sv k)) (fun wr => 8 - objLen wr P)
  case atStart => exact ⟨r.kn, Nat.le_refl _, by omega, HK0⟩
  case round =>
    clear HK0
    obtain ⟨k, h1, h2, hK⟩ := hrel
    obtain ⟨⟨K, ao, co, hI⟩, hT⟩ := hK.out
    obtain ⟨c0, c1, c2, c3, c4⟩ := hI.cells
    simp only at c3
    have hol : objLen wr P = k := by unfold objLen; rw [c3]
    rw [hol]
    clear c0 c1 c2 c4
    by_cases hlt : k < c
    · have OB : Hid (wr.ownsRow 0 125 2 (.slice ao k co) k (gcells { r with kn := k } D k)) := hI.ob
      have HI : Hid (LRI wr P { r with kn := k } (grow F w wr) K ao co D nv sv) := hI
      have HT : Hid (Touch w wr F) := hT
      have hPl := hI.row.lt
      have f3 := hI.row.frozen 3
      clear hI hT hK hol
      generalize hXS : gcells { r with kn := k } D k = XS at *
      have HXS : Hid (gcells { r with kn := k } D k = XS) := hXS
      clear hXS
      go_wp2_with (at_builtin; refine wpList_append_two _ rfl _ _ 56 rfl 125 i0 (.agg #[.int .i64 0, .slice none 0 0]) 2 32 Tryz.underlying56 hi hz0 hz1 hz2 rfl (by decide) (.slice ao k co) k XS rfl (OB.out.alloc _) ⟨wr.heap.size, 0, none⟩ 1 1 [.int .i64 0, .slice none 0 0] rfl rfl news2 (by intro u hu; simp at hu; rcases hu with rfl | rfl <;> rfl) (by unfold maxLen; omega) (by omega) (by decide) ?_)
      intro v' w2 hown htwo
      obtain ⟨ao2, co2, rfl⟩ := owns_form hown
      rw [← HXS.out] at hown
      have hg := two_grown htwo
      have hgs := hg.size
      have LN := LRI.know (G := grow F w (w2.setCell ⟨P, 3, none⟩ (.slice ao2 (k + 1) co2))) HI.out hown hg (fun x hx => (two_new htwo x hx).imp id Nat.le_of_lt) (fun b hb => hb.imp id (fun h => ⟨h.1, by simp; omega⟩)) (fun b h1 h2 => .inr ⟨by have := HT.out.size; omega, by simp; exact h2⟩)
      have TC : Touch w (w2.setCell ⟨P, 3, none⟩ (.slice ao2 (k + 1) co2)) F := by
        have T0 := HT.out
        refine ⟨hg.os.trans T0.os, hg.tape.trans T0.tape, hg.output.trans T0.output, by have := T0.size; simp; omega, fun b hb hF => ?_⟩
        have hk1 : ∀ x, x < wr.heap.size → K x ≠ .no → x < w.heap.size → F x := fun x hx hk hl => (HI.out.kF x hx hk).elim id (fun e => by omega)
        have hbz : b < wr.heap.size := by have := T0.size; omega
        rw [heap_setCell_other _ _ _ _ (fun e => hF (by rw [e] at hb hbz ⊢; exact hk1 P hbz (by rw [HI.out.kP]; simp) hb)), hg.block b hbz (fun e => hF (hk1 b hbz (by rw [HI.out.ko b e.symm]; simp) hb)), T0.block b hb hF]
      have HK2 : Hid (KnowTo w (w2.setCell ⟨P, 3, none⟩ (.slice ao2 (k + 1) co2)) P r F D nv sv (k + 1)) := ⟨⟨_, _, _, LN⟩, TC⟩
      have hol : objLen (w2.setCell ⟨P, 3, none⟩ (.slice ao2 (k + 1) co2)) P = k + 1 := by
        unfold objLen; rw [LN.cells.2.2.2.1]
      have R1 := HI.out.row.of_block (w' := w2) (hg.block P hPl (fun e => by have := HI.out.ko P e.symm; rw [HI.out.kP] at this; simp at this))
      have c3' : w2.cell? ⟨P, 3, none⟩ = some (.slice ao k co) := R1.cell (by decide)
      have f3' := R1.frozen 3
      clear LN TC R1 hg htwo hown OB HI HT hgs
      go_wp2
      go_roundw
      case rel => exact ⟨k + 1, by omega, by omega, HK2⟩
      case measure => rw [hol]; omega
    · have e : k = max r.kn c := by omega
      have HE : Hid (KnowTo w wr P r F D nv sv (max r.kn c)) := by unfold Hid; rw [← e]; exact hK.out
      clear e h1 h2 hI hT hK hol
      go_wp2
      refine bodyPost_end (v := .tuple #[]) (by simp [results, Tryz.results70]) rfl ?_
      exact ⟨rfl, HE.out⟩
end Sn
end Go.Proofs.YtkgnmcekeeannaaGreat
