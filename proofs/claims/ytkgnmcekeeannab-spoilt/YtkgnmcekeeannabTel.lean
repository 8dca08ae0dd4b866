import Derived.Test.YtkgnmcekeeannabMsg
import Derived.Lib.Strings
/-
  What a text tells, in plain words: by the reference's guess and by the landed one; both find the message, where the text is one.
-/
namespace Go.Proofs.Ytkgnmcekeeannab
namespace Ms
open Go

def byt (s : ByteArray) (i : Nat) : Int := ((s.data.toList.getD i 0).toNat : Int)
theorem byt_get (s : ByteArray) (i : Nat) (h : i < s.size) : byt s i = (s[i].toNat : Int) := by
  unfold byt
  rw [List.getD_eq_getElem?_getD, List.getElem?_eq_getElem (by simpa using h)]; rfl
theorem byt_range (s : ByteArray) (i : Nat) : 0 ≤ byt s i ∧ byt s i < 256 := by
  unfold byt; have := UInt8.toNat_lt (s.data.toList.getD i 0); omega
def zeroM : M := ⟨0, 0, 0, 0, 0, ⟨#[]⟩, [], 0⟩
def gItem (s : ByteArray) (j : Nat) : It := ⟨byt s (2 + 3 * j), byt s (2 + 3 * j + 1), byt s (2 + 3 * j + 2)⟩
def gItems (s : ByteArray) (k : Nat) : List It := (List.range k).map (gItem s)
def gData (s : ByteArray) : M := ⟨1, byt s 1, byt s 2, byt s 3, byt s 4 * 256 + byt s 5, s.extract 6 (s.size - 2), [], 0⟩
def gReq (s : ByteArray) (k : Nat) : M := ⟨2, 0, 0, 0, 0, ⟨#[]⟩, gItems s k, 0⟩
def gEnd (s : ByteArray) : M := ⟨3, 0, 0, 0, 0, ⟨#[]⟩, [], byt s 1⟩
def gRef (s : ByteArray) : M :=
  if 9 ≤ s.size ∧ byt s 0 = 68 then gData s
  else if 4 ≤ s.size ∧ byt s 0 = 82 then gReq s ((s.size - 4) / 3)
  else if s.size = 4 ∧ byt s 0 = 69 then gEnd s
  else zeroM
def gLan (s : ByteArray) : M :=
  if s.size < 4 then zeroM
  else if byt s 0 = 68 then (if s.size < 8 then zeroM else gData s)
  else if byt s 0 = 82 then gReq s (min 8 ((s.size - 4) / 3))
  else if byt s 0 = 69 then gEnd s
  else zeroM
/-- the text is this message -/
def Tells (s : ByteArray) (m : M) : Prop := ok m ∧ s.data.toList = text m

theorem itsL_length (l : List It) : (itsL l).length = 3 * l.length := by
  induction l with
  | nil => rfl
  | cons t l ih => simp only [itsL, List.length_append, ih, itL, List.length_cons, List.length_nil]; omega
theorem itsL_get (l : List It) : ∀ (j : Nat) (hj : j < l.length) (r : Nat), r < 3 → (itsL l)[3 * j + r]? = (itL l[j])[r]? := by
  induction l with
  | nil => intro j hj; simp at hj
  | cons t l ih =>
    intro j hj r hr
    simp only [itsL]
    cases j with
    | zero => rw [List.getElem?_append_left (by simp [itL]; omega)]; simp
    | succ j =>
      rw [List.getElem?_append_right (by simp [itL]; omega)]
      have e : 3 * (j + 1) + r - (itL t).length = 3 * j + r := by simp [itL]; omega
      rw [e, ih j (by simpa using hj) r hr]; simp
theorem u8w_back (x : Int) (h0 : 0 ≤ x) (h1 : x < 256) : ((u8w x).toNat : Int) = x := by rw [toNat_u8w]; omega
theorem M_ext {a b : M} (h1 : a.kind = b.kind) (h2 : a.obj = b.obj) (h3 : a.blk = b.blk) (h4 : a.num = b.num) (h5 : a.len = b.len) (h6 : a.sym = b.sym) (h7 : a.items = b.items) (h8 : a.objs = b.objs) : a = b := by
  cases a; cases b; simp_all
theorem It_ext {a b : It} (h1 : a.o = b.o) (h2 : a.b = b.b) (h3 : a.c = b.c) : a = b := by
  cases a; cases b; simp_all
theorem bytes_ext {a b : ByteArray} (h : a.data.toList = b.data.toList) : a = b := by
  cases a; cases b; simp only [ByteArray.mk.injEq]; exact Array.toList_inj.1 h
theorem size_zero {a : ByteArray} (h : a.size = 0) : a = ⟨#[]⟩ := by
  apply bytes_ext
  have : a.data.toList.length = 0 := by simpa using h
  rw [List.length_eq_zero_iff] at this
  rw [this]
theorem len_eq (s : ByteArray) : s.size = s.data.toList.length := by simp

theorem tells_data {s : ByteArray} {m : M} (h : Tells s m) (hk : m.kind = 1) : 9 ≤ s.size ∧ byt s 0 = 68 ∧ gData s = m := by
  obtain ⟨hok, ht⟩ := h
  have hd : dataOK m := by
    rcases hok with h | h | h
    · exact h.2
    · rw [hk] at h; exact absurd h.1 (by decide)
    · rw [hk] at h; exact absurd h.1 (by decide)
  obtain ⟨a1, a2, a3, a4, a5, a6, a7, a8, a9, a10, a11, a12⟩ := hd
  have ht2 := ht
  unfold text checked body at ht2
  rw [if_pos hk] at ht2
  obtain ⟨c, hc, hcl⟩ : ∃ c : List UInt8, s.data.toList = [68, u8w m.obj, u8w m.blk, u8w m.num, u8w (m.len / 256), u8w (m.len % 256)] ++ (m.sym.data.toList ++ c) ∧ c.length = 2 := ⟨_, by rw [ht2, List.append_assoc], rfl⟩
  have hsz : s.size = 8 + m.sym.size := by
    rw [len_eq, hc, List.length_append, List.length_append, hcl, ← len_eq]; simp; omega
  refine ⟨by omega, by unfold byt; rw [hc]; rfl, ?_⟩
  apply M_ext
  · exact hk.symm
  · show byt s 1 = _
    unfold byt; rw [hc]; exact u8w_back _ a1 (by omega)
  · show byt s 2 = _
    unfold byt; rw [hc]; exact u8w_back _ a3 (by omega)
  · show byt s 3 = _
    unfold byt; rw [hc]; exact u8w_back _ a5 (by omega)
  · show byt s 4 * 256 + byt s 5 = _
    have e4 : byt s 4 = m.len / 256 := by unfold byt; rw [hc]; exact u8w_back _ (by omega) (by omega)
    have e5 : byt s 5 = m.len % 256 := by unfold byt; rw [hc]; exact u8w_back _ (by omega) (by omega)
    omega
  · show s.extract 6 (s.size - 2) = _
    apply bytes_ext
    rw [Lib.extract_data, hc, hsz, show 8 + m.sym.size - 2 - 6 = m.sym.data.toList.length from by rw [← len_eq]; omega]
    have hd : ([68, u8w m.obj, u8w m.blk, u8w m.num, u8w (m.len / 256), u8w (m.len % 256)] ++ (m.sym.data.toList ++ c)).drop 6 = m.sym.data.toList ++ c := rfl
    rw [hd, List.take_left]
  · exact a11.symm
  · exact a12.symm
theorem tells_req {s : ByteArray} {m : M} (h : Tells s m) (hk : m.kind = 2) : s.size = 4 + 3 * m.items.length ∧ m.items.length ≤ 8 ∧ 1 ≤ m.items.length ∧ byt s 0 = 82 ∧ gReq s m.items.length = m := by
  obtain ⟨hok, ht⟩ := h
  have hd : reqOK m := by
    rcases hok with h | h | h
    · rw [hk] at h; exact absurd h.1 (by decide)
    · exact h.2
    · rw [hk] at h; exact absurd h.1 (by decide)
  obtain ⟨⟨n1, n2, n3, n4, n5⟩, a1, a2, a3, a4⟩ := hd
  have ht2 := ht
  unfold text checked body at ht2
  rw [if_neg (by rw [hk]; decide), if_pos hk] at ht2
  obtain ⟨c, hc, hcl⟩ : ∃ c : List UInt8, s.data.toList = [82, u8w m.items.length] ++ (itsL m.items ++ c) ∧ c.length = 2 := ⟨_, by rw [ht2, List.append_assoc], rfl⟩
  have hsz : s.size = 4 + 3 * m.items.length := by
    rw [len_eq, hc, List.length_append, List.length_append, hcl, itsL_length]; simp; omega
  refine ⟨hsz, a3, a2, by unfold byt; rw [hc]; rfl, ?_⟩
  apply M_ext
  · exact hk.symm
  · exact n1.symm
  · exact n2.symm
  · exact n3.symm
  · exact n4.symm
  · exact (size_zero n5).symm
  · show gItems s m.items.length = m.items
    have hget : ∀ (j : Nat) (hj : j < m.items.length) (r : Nat), r < 3 → s.data.toList[2 + 3 * j + r]? = (itL m.items[j])[r]? := by
      intro j hj r hr
      rw [hc, List.getElem?_append_right (by simp; omega), show 2 + 3 * j + r - ([82, u8w m.items.length] : List UInt8).length = 3 * j + r from by simp; omega, List.getElem?_append_left (by rw [itsL_length]; omega), itsL_get _ j hj r hr]
    apply List.ext_getElem
    · simp [gItems]
    · intro j h1 h2
      have o := a4 _ (List.getElem_mem h2)
      obtain ⟨o1, o2, o3, o4, o5, o6⟩ := o
      have g0 := hget j h2 0 (by decide)
      have g1 := hget j h2 1 (by decide)
      have g2 := hget j h2 2 (by decide)
      simp only [gItems, List.getElem_map, List.getElem_range]
      apply It_ext
      · show byt s (2 + 3 * j) = _
        unfold byt; rw [List.getD_eq_getElem?_getD, show 2 + 3 * j = 2 + 3 * j + 0 from rfl, g0]; exact u8w_back _ o1 (by omega)
      · show byt s (2 + 3 * j + 1) = _
        unfold byt; rw [List.getD_eq_getElem?_getD, g1]; exact u8w_back _ o3 (by omega)
      · show byt s (2 + 3 * j + 2) = _
        unfold byt; rw [List.getD_eq_getElem?_getD, g2]; exact u8w_back _ o5 (by omega)
  · exact a1.symm
theorem tells_end {s : ByteArray} {m : M} (h : Tells s m) (hk : m.kind = 3) : s.size = 4 ∧ byt s 0 = 69 ∧ gEnd s = m := by
  obtain ⟨hok, ht⟩ := h
  have hd : endOK m := by
    rcases hok with h | h | h
    · rw [hk] at h; exact absurd h.1 (by decide)
    · rw [hk] at h; exact absurd h.1 (by decide)
    · exact h.2
  obtain ⟨a1, a2, ⟨n1, n2, n3, n4, n5⟩, a3⟩ := hd
  have ht2 := ht
  unfold text checked body at ht2
  rw [if_neg (by rw [hk]; decide), if_neg (by rw [hk]; decide)] at ht2
  obtain ⟨c, hc, hcl⟩ : ∃ c : List UInt8, s.data.toList = [69, u8w m.objs] ++ c ∧ c.length = 2 := ⟨_, ht2, rfl⟩
  have hsz : s.size = 4 := by rw [len_eq, hc, List.length_append, hcl]; rfl
  refine ⟨hsz, by unfold byt; rw [hc]; rfl, ?_⟩
  apply M_ext
  · exact hk.symm
  · exact n1.symm
  · exact n2.symm
  · exact n3.symm
  · exact n4.symm
  · exact (size_zero n5).symm
  · exact a3.symm
  · show byt s 1 = _
    unfold byt; rw [hc]; exact u8w_back _ a1 (by omega)
theorem ok_kind {m : M} (h : ok m) : m.kind = 1 ∨ m.kind = 2 ∨ m.kind = 3 := by
  rcases h with h | h | h
  · exact .inl h.1
  · exact .inr (.inl h.1)
  · exact .inr (.inr h.1)
theorem tells_ref {s : ByteArray} {m : M} (h : Tells s m) : gRef s = m := by
  unfold gRef
  rcases ok_kind h.1 with k | k | k
  · obtain ⟨h1, h2, h3⟩ := tells_data h k
    rw [if_pos ⟨h1, h2⟩, h3]
  · obtain ⟨h1, h2, h3, h4, h5⟩ := tells_req h k
    rw [if_neg (by rintro ⟨_, e⟩; rw [h4] at e; exact absurd e (by decide)), if_pos ⟨by omega, h4⟩, show (s.size - 4) / 3 = m.items.length from by omega, h5]
  · obtain ⟨h1, h2, h3⟩ := tells_end h k
    rw [if_neg (by rintro ⟨_, e⟩; rw [h2] at e; exact absurd e (by decide)), if_neg (by rintro ⟨_, e⟩; rw [h2] at e; exact absurd e (by decide)), if_pos ⟨h1, h2⟩, h3]
theorem tells_lan {s : ByteArray} {m : M} (h : Tells s m) : gLan s = m := by
  unfold gLan
  rcases ok_kind h.1 with k | k | k
  · obtain ⟨h1, h2, h3⟩ := tells_data h k
    rw [if_neg (by omega), if_pos h2, if_neg (by omega), h3]
  · obtain ⟨h1, h2, h3, h4, h5⟩ := tells_req h k
    rw [if_neg (by omega), if_neg (by rw [h4]; decide), if_pos h4, show min 8 ((s.size - 4) / 3) = m.items.length from by omega, h5]
  · obtain ⟨h1, h2, h3⟩ := tells_end h k
    rw [if_neg (by omega), if_neg (by rw [h2]; decide), if_neg (by rw [h2]; decide), if_pos h2, h3]

/-! ### what is spoilt -/
theorem tells_goes {s : ByteArray} {m : M} (h : Tells s m) : Crc.goes 65535 s.data.toList = 0 := by
  rw [h.2]; exact goes_checked _
theorem zipx_self (l : List UInt8) : Crc.zipx l l = List.replicate l.length 0 := by
  induction l with
  | nil => rfl
  | cons a l ih => simp [Crc.zipx, ih, List.replicate_succ]
theorem zipx_append : ∀ (a c b d : List UInt8), a.length = c.length → Crc.zipx (a ++ b) (c ++ d) = Crc.zipx a c ++ Crc.zipx b d
  | [], [], _, _, _ => rfl
  | x :: a, y :: c, b, d, h => by simp [Crc.zipx, zipx_append a c b d (by simpa using h)]
/-- two texts alike but for one byte, or two side by side, are not both messages -/
theorem spoilt_two (a b : List UInt8) (x y x' y' : UInt8) (hx : x ≠ x') (h1 : Crc.goes 65535 (a ++ x :: y :: b) = 0) : Crc.goes 65535 (a ++ x' :: y' :: b) ≠ 0 := by
  intro h2
  have hz := Crc.goes_zip (a ++ x :: y :: b) (a ++ x' :: y' :: b) 65535 65535 (by simp) (by decide) (by decide)
  rw [h1, h2, zipx_append _ _ _ _ rfl, zipx_self] at hz
  simp only [Crc.zipx, zipx_self, Nat.xor_self] at hz
  exact Crc.burst _ _ _ _ (fun e => hx (by
    have : x ^^^ x' ^^^ x' = x' := by rw [e]; simp
    simpa [UInt8.xor_assoc] using this)) hz
theorem spoilt_one (a : List UInt8) (x x' : UInt8) (hx : x ≠ x') (h1 : Crc.goes 65535 (a ++ [x]) = 0) : Crc.goes 65535 (a ++ [x']) ≠ 0 := by
  intro h2
  have hz := Crc.goes_zip (a ++ [x]) (a ++ [x']) 65535 65535 (by simp) (by decide) (by decide)
  rw [h1, h2, zipx_append _ _ _ _ rfl, zipx_self] at hz
  simp only [Crc.zipx, Nat.xor_self] at hz
  exact Crc.burst_one _ _ (fun e => hx (by
    have : x ^^^ x' ^^^ x' = x' := by rw [e]; simp
    simpa [UInt8.xor_assoc] using this)) hz
end Ms
end Go.Proofs.Ytkgnmcekeeannab
