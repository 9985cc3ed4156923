/-
  Texts of one claim, merged.
  TextOctets: The contract of chapter 4's law TextOctets: of any text it answers true; old memory is as it was. The conditions: the contracts of Enc, Dec, Octets, Token, Trim; unicode/utf8's two tables as Go's text lays them; texts of fewer than 2^63 bytes.
  TrimMath: What Go's way of trimming by runes comes to where the function takes a blank or a tab alone: the bytes without these around. No program, no conditions.
-/
import Derived.Test.YtlgofepmdjlpgaaDoorPart13
import Derived.Test.YtlgofepmdjlpgaaDoorRefOctets
import Derived.Test.YtlgofepmdjlpgaaDoorTrimFunc
import Derived.Test.YtlgofepmdjlpgaaDoorPart07
import Derived.Shelf.GgClosure.StringsTrimFunc
import Derived.Lib.TrimUEq
namespace Go.Proofs.YtlgofepmdjlpgaaDoor
open Go.RowKit TextNat

/-- unicode/utf8's tables, as they are laid. -/
def Tabs (w : World) : Prop := Lib.Utf8Tabs 4 5 w
theorem block_lt {w : World} {b o : Nat} {v : Value} (h : w.cell? ⟨b, o, none⟩ = some v) : b < w.heap.size := by
  rcases Nat.lt_or_ge b w.heap.size with h1 | h1
  · exact h1
  · simp [World.cell?, Array.getElem?_eq_none h1] at h
theorem Tabs.below {w w' : World} (h : Tabs w) (hb : Below w.heap.size w w') : Tabs w' :=
  ⟨fun c hc => (hb.cell (p := ⟨4, c, none⟩) (block_lt (h.1 c hc))).trans (h.1 c hc),
    fun i hi => ⟨(hb.cell (p := ⟨5, 2 * i, none⟩) (block_lt (h.2 i hi).1)).trans (h.2 i hi).1, (hb.cell (p := ⟨5, 2 * i + 1, none⟩) (block_lt (h.2 i hi).2)).trans (h.2 i hi).2⟩⟩
def TrimOk : Prop := ∀ (s : ByteArray) (w : World), s.size ≤ 20000 → Tabs w → Calls Tryd.prog 38 #[.string s] w fun e w' => e = .returned (.string (txt (TextMath.trim (nats s)))) ∧ Below w.heap.size w w'

end Go.Proofs.YtlgofepmdjlpgaaDoor
namespace Go.Proofs.YtlgofepmdjlpgaaDoor
open Go Go.Lib TextNat

/-- A byte from 128 on opens no blank. -/
theorem decode_far (n b0 b1 b2 b3 : Nat) (h : 128 ≤ b0) : 128 ≤ (decodeN n b0 b1 b2 b3).1 := by
  unfold decodeN
  repeat' split
  all_goals first | (exfalso; omega) | (simp only; omega) | simp only
theorem decode_near (n b0 b1 b2 b3 : Nat) (h : b0 < 128) : decodeN n b0 b1 b2 b3 = (b0, 1) := decodeN_ascii n b0 b1 b2 b3 h
theorem blank_far {x : Nat} (h : 128 ≤ x) : TextMath.blank x = false := by
  unfold TextMath.blank
  rw [Bool.eq_false_iff]
  simp
  omega

theorem list_at (s : ByteArray) (i : Nat) (h : i < s.size) : (nats s)[i]? = some (s.data.toList.getD i 0).toNat := by
  unfold nats
  have h1 : i < s.data.toList.length := by rw [← size_eq]; exact h
  have h2 : s.data.toList.getD i 0 = s.data.toList[i] := by unfold List.getD; rw [List.getElem?_eq_getElem h1]; rfl
  rw [List.getElem?_map, List.getElem?_eq_getElem h1, h2]
  rfl
theorem drop_cons {l : List Nat} {i z : Nat} (h : l[i]? = some z) : l.drop i = z :: l.drop (i + 1) := by
  obtain ⟨hi, h1⟩ := List.getElem?_eq_some_iff.1 h
  rw [List.drop_eq_getElem_cons hi, h1]

/-! From the front. -/
theorem idx_hit {p : Nat → Bool} {s : ByteArray} {f pos : Nat} (hp : pos < s.size) (hr : p (Utf8.decode s pos).1 = false) : idxFuncFrom p false s (f + 1) pos = (pos : Int) := by
  unfold idxFuncFrom
  rw [if_pos hp, if_pos hr]
theorem idx_on {p : Nat → Bool} {s : ByteArray} {f pos : Nat} (hp : pos < s.size) (hr : p (Utf8.decode s pos).1 = true) : idxFuncFrom p false s (f + 1) pos = idxFuncFrom p false s f (pos + (Utf8.decode s pos).2) := by
  rw [idxFuncFrom.eq_def]
  simp only
  rw [if_pos hp, if_neg (by rw [hr]; decide)]
theorem left_from (s : ByteArray) : ∀ (f pos : Nat), s.size ≤ pos + f →
    (if idxFuncFrom TextMath.blank false s f pos = -1 then [] else (nats s).drop (idxFuncFrom TextMath.blank false s f pos).toNat) = ((nats s).drop pos).dropWhile TextMath.blank
  | 0, pos, h => by
    rw [List.drop_eq_nil_of_le (i := pos) (by rw [nats_len]; omega)]
    simp [idxFuncFrom]
  | f + 1, pos, h => by
    by_cases hp : pos < s.size
    · have hz := list_at s pos hp
      obtain ⟨z, hzd⟩ : ∃ z, z = (s.data.toList.getD pos 0).toNat := ⟨_, rfl⟩
      have hN := decode_N s pos
      rw [← hzd] at hz hN
      by_cases ha : z < 128
      · rw [decode_near _ _ _ _ _ ha] at hN
        cases hb : TextMath.blank z
        · rw [idx_hit hp (by rw [hN]; exact hb), if_neg (by omega), Int.toNat_natCast, drop_cons hz, List.dropWhile_cons, if_neg (by rw [hb]; decide)]
        · rw [idx_on hp (by rw [hN]; exact hb), hN, drop_cons hz, List.dropWhile_cons, if_pos hb]
          exact left_from s f (pos + 1) (by omega)
      · have hfar := decode_far (s.data.toList.length - pos) z (s.data.toList.getD (pos + 1) 0).toNat (s.data.toList.getD (pos + 2) 0).toNat (s.data.toList.getD (pos + 3) 0).toNat (by omega)
        rw [← hN] at hfar
        rw [idx_hit hp (blank_far hfar), if_neg (by omega), Int.toNat_natCast, drop_cons hz, List.dropWhile_cons, if_neg (by rw [blank_far (by omega)]; decide)]
    · rw [idxFuncFrom_end _ _ _ _ _ hp, if_pos rfl, List.drop_eq_nil_of_le (by rw [nats_len]; omega)]
      rfl
theorem left_nats (s : ByteArray) : nats (trimLeftF TextMath.blank s) = (nats s).dropWhile TextMath.blank := by
  have h := left_from s s.size 0 (by omega)
  rw [List.drop_zero] at h
  rw [← h]
  unfold trimLeftF idxFunc
  by_cases h1 : idxFuncFrom TextMath.blank false s s.size 0 = -1
  · rw [if_pos h1, if_pos h1]
    rfl
  · rw [if_neg h1, if_neg h1, text_extract, List.take_of_length_le (by rw [nats_len]; exact Nat.le_refl _)]

/-! From the end. -/
theorem last_far (l : List UInt8) (i : Nat) (hi : 0 < i) (hil : i ≤ l.length) (h : 128 ≤ (l.getD (i - 1) 0).toNat) : TextMath.blank (decodeLastL (l.take i)).1 = false := by
  rcases last_cases l i hi hil with ⟨ha, hd⟩ | ⟨ha, hd⟩ | ⟨ha, st, hst, hd, hsum⟩
  · omega
  · rw [hd]
    rfl
  · rw [hd]
    by_cases hn : (((l.take i).drop st).getD 0 0).toNat < 128
    · exfalso
      rw [decodeL_N, decode_near _ _ _ _ _ hn] at hsum
      obtain rfl : st = i - 1 := by have : st + 1 = i := hsum; omega
      rw [getD_dropU, Nat.add_zero, getD_takeU l i (i - 1) (by omega)] at hn
      omega
    · refine blank_far ?_
      rw [decodeL_N]
      exact decode_far _ _ _ _ _ (by omega)

theorem take_snoc {l : List Nat} {i z : Nat} (h : l[i]? = some z) : l.take (i + 1) = l.take i ++ [z] := by
  rw [List.take_add_one, h]
  rfl
theorem last_hit {p : Nat → Bool} {s : ByteArray} {f i : Nat} (hi : 0 < i) (hr : p (decodeLastL (s.data.toList.take i)).1 = false) : lastIdxFuncFrom p false s (f + 1) i = ((i - (decodeLastL (s.data.toList.take i)).2 : Nat) : Int) := by
  unfold lastIdxFuncFrom
  rw [if_pos hi, if_pos hr]
theorem last_on {p : Nat → Bool} {s : ByteArray} {f i : Nat} (hi : 0 < i) (hr : p (decodeLastL (s.data.toList.take i)).1 = true) : lastIdxFuncFrom p false s (f + 1) i = lastIdxFuncFrom p false s f (i - (decodeLastL (s.data.toList.take i)).2) := by
  rw [lastIdxFuncFrom.eq_def]
  simp only
  rw [if_pos hi, if_neg (by rw [hr]; decide)]
theorem right_from (s : ByteArray) : ∀ (f i : Nat), i ≤ f → i ≤ s.data.toList.length → OpenAt s.data.toList i →
    (nats s).take (if 0 ≤ lastIdxFuncFrom TextMath.blank false s f i then (lastIdxFuncFrom TextMath.blank false s f i).toNat + (decodeL (s.data.toList.drop (lastIdxFuncFrom TextMath.blank false s f i).toNat)).2 else 0) = (((nats s).take i).reverse.dropWhile TextMath.blank).reverse
  | 0, i, hf, _, _ => by
    obtain rfl : i = 0 := by omega
    simp [lastIdxFuncFrom]
  | f + 1, i, hf, hil, ho => by
    by_cases hi : 0 < i
    · have hlen : (s.data.toList.take i).length = i := by rw [List.length_take]; omega
      have hw := decodeLastL_width (s.data.toList.take i) (by omega)
      rw [hlen] at hw
      have hz := list_at s (i - 1) (by rw [size_eq]; omega)
      have ht := take_snoc hz
      rw [show i - 1 + 1 = i by omega] at ht
      have hc := last_cases s.data.toList i hi hil
      have hfar := last_far s.data.toList i hi hil
      obtain ⟨z, hzd⟩ : ∃ z, z = (s.data.toList.getD (i - 1) 0).toNat := ⟨_, rfl⟩
      have hopen : z < 128 → OpenAt s.data.toList (i - 1) := fun h => .inr (by omega)
      rw [← hzd] at hz ht hc hfar
      cases hb : TextMath.blank z
      · have hn : TextMath.blank (decodeLastL (s.data.toList.take i)).1 = false := by
          by_cases ha : z < 128
          · rcases hc with ⟨_, hd⟩ | ⟨h, _⟩ | ⟨h, _⟩
            · rw [hd]
              exact hb
            · omega
            · omega
          · exact hfar (by omega)
        rw [last_hit hi hn, if_pos (by omega), Int.toNat_natCast, fw_width _ i hi hil ho, Nat.sub_add_cancel hw.2]
        rw [ht, List.reverse_append, List.reverse_cons, List.reverse_nil, List.nil_append, List.singleton_append, List.dropWhile_cons, if_neg (by rw [hb]; decide), List.reverse_cons, List.reverse_reverse]
      · have ha : z < 128 := by
          by_cases h : z < 128
          · exact h
          · rw [blank_far (by omega)] at hb
            exact absurd hb (by decide)
        have hd : decodeLastL (s.data.toList.take i) = (z, 1) := by
          rcases hc with ⟨_, hd⟩ | ⟨h, _⟩ | ⟨h, _⟩
          · exact hd
          · omega
          · omega
        rw [last_on hi (by rw [hd]; exact hb), hd, ht, List.reverse_append, List.reverse_cons, List.reverse_nil, List.nil_append, List.singleton_append, List.dropWhile_cons, if_pos hb]
        exact right_from s f (i - 1) (by omega) (by omega) (hopen ha)
    · obtain rfl : i = 0 := by omega
      rw [lastIdxFuncFrom_zero]
      simp
theorem last_lt (p : Nat → Bool) (s : ByteArray) : ∀ (f i : Nat), i ≤ s.size → lastIdxFuncFrom p false s f i = -1 ∨ (0 ≤ lastIdxFuncFrom p false s f i ∧ lastIdxFuncFrom p false s f i < i)
  | 0, _, _ => .inl rfl
  | f + 1, i, hi => by
    by_cases h0 : 0 < i
    · have hw := decodeLastL_width (s.data.toList.take i) (by rw [List.length_take, ← size_eq]; omega)
      rw [List.length_take, ← size_eq, Nat.min_eq_left hi] at hw
      cases hr : p (decodeLastL (s.data.toList.take i)).1
      · rw [last_hit h0 hr]
        exact .inr ⟨by omega, by omega⟩
      · rw [last_on h0 hr]
        rcases last_lt p s f (i - (decodeLastL (s.data.toList.take i)).2) (by omega) with h | h
        · exact .inl h
        · exact .inr ⟨h.1, by omega⟩
    · obtain rfl : i = 0 := by omega
      rw [lastIdxFuncFrom_zero]
      exact .inl rfl
theorem right_nats (s : ByteArray) : nats (trimRightF TextMath.blank s) = ((nats s).reverse.dropWhile TextMath.blank).reverse := by
  have h := right_from s s.size s.size (Nat.le_refl _) (by rw [← size_eq]; exact Nat.le_refl _) (.inl (size_eq s))
  rw [List.take_of_length_le (i := s.size) (by rw [nats_len]; exact Nat.le_refl _)] at h
  rw [← h]
  unfold trimRightF rightEndF
  rw [text_extract, List.drop_zero]
  change List.take _ (nats s) = _
  congr 1
  show (if 0 ≤ lastIdxFuncFrom TextMath.blank false s s.size s.size then _ else 0) = _
  by_cases h0 : 0 ≤ lastIdxFuncFrom TextMath.blank false s s.size s.size
  · rw [if_pos h0, if_pos h0]
    congr 1
    have hx : s.extract (lastIdxFuncFrom TextMath.blank false s s.size s.size).toNat s.size = ⟨(s.data.toList.drop (lastIdxFuncFrom TextMath.blank false s s.size s.size).toNat).toArray⟩ := by
      rw [extract_eq, List.take_of_length_le (by rw [List.length_drop, ← size_eq]; exact Nat.le_refl _)]
    show (decodeGoB (s.extract (lastIdxFuncFrom TextMath.blank false s s.size s.size).toNat s.size)).2 = _
    rw [hx]
    unfold decodeGoB decodeL
    by_cases he : (⟨(s.data.toList.drop (lastIdxFuncFrom TextMath.blank false s s.size s.size).toNat).toArray⟩ : ByteArray).size = 0
    · exfalso
      rw [size_eq] at he
      simp only [List.length_drop] at he
      rw [← size_eq] at he
      rcases last_lt TextMath.blank s s.size s.size (Nat.le_refl _) with h1 | h1
      · omega
      · omega
    · rw [if_neg he]
  · rw [if_neg h0, if_neg h0]
/-- **Go's strings.TrimFunc at blanks and tabs.** -/
theorem trim_nats (s : ByteArray) : nats (trimF TextMath.blank s) = TextMath.trim (nats s) := by
  unfold trimF TextMath.trim
  rw [right_nats, left_nats]
theorem trim_txt (s : ByteArray) : trimF TextMath.blank s = txt (TextMath.trim (nats s)) := by rw [← trim_nats, txt_nats]
end Go.Proofs.YtlgofepmdjlpgaaDoor
