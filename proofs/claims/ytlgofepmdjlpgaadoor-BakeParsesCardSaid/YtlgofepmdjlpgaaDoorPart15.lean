/-
  Texts of one claim, merged.
  TextTrim: The contract of the program's Trim of chapter 4. The conditions: a text of at most 20,000 bytes; unicode/utf8's two tables as Go's text lays them.
  TextMore: Plain mathematics of chapter 4: letters of three, two and one bytes, bytes of four, three and two letters; what is trimmed is trimmed. No program, no conditions but those typed.
-/
import Derived.Test.YtlgofepmdjlpgaaDoorPart14
import Derived.Test.YtlgofepmdjlpgaaDoorClone
import Derived.WalkKit
import Derived.Test.YtlgofepmdjlpgaaDoorPart13
import Derived.KernelRfl
namespace Go.Proofs.YtlgofepmdjlpgaaDoor
open Go.RowKit TextNat

theorem blank_walk (x : Nat) (W : World) : FnGives Tryd.prog 54 #[] #[encR x] (.bool (TextMath.blank x)) W := by
  unfold FnGives
  have e1 : ((x : Int) == 32) = (x == 32) := by rw [Bool.eq_iff_iff]; simp; omega
  have e2 : ((x : Int) == 9) = (x == 9) := by rw [Bool.eq_iff_iff]; simp; omega
  unfold TextMath.blank
  cases h1 : x == 32 <;> cases h2 : x == 9
  all_goals
    rw [h1] at e1
    rw [h2] at e2
    clear h1 h2
    go_enter Tryd.func54, Tryd.ntmps54
    go_wp2
    go_ret
    exact ⟨rfl, 0, rfl⟩
theorem trim_func (s : ByteArray) (w : World) (hs : s.size ≤ 20000) (ht : Tabs w) :
    Calls Tryd.prog 53 #[.string s, .func (.func 54) #[] #[]] w fun e w' => e = .returned (.string (txt (TextMath.trim (nats s)))) ∧ Below w.heap.size w w' := by
  rw [← trim_txt]
  exact Tryd.strings_TrimFunc _ _ (enters_of Tryd.func54 (by kernel_rfl) rfl) TextMath.blank s w (by omega) ht (fun W x _ => blank_walk x W)
theorem clone_text (s : ByteArray) (w : World) (hs : s.size ≤ 20000) :
    Calls Tryd.prog 52 #[.string s] w fun e w' => e = .returned (.string s) ∧ Below w.heap.size w w' := by
  have HC := Lib.hid (fun w => Tryd.stringslite_Clone s w (by omega))
  go_enter Tryd.func52, Tryd.ntmps52
  go_wp2_with (go_at_call 68; refine (HC.out _).mono ?_; rintro e w2 ⟨rfl, hb⟩)
  go_ret
  exact ⟨rfl, hb⟩
theorem trimOk : TrimOk := by
  intro s w hs ht
  obtain ⟨L, hL⟩ : ∃ L, L = txt (TextMath.trim (nats s)) := ⟨_, rfl⟩
  have hls : L.size ≤ 20000 := by
    have := trim_len (nats s)
    rw [nats_len] at this
    rw [hL, txt_len]
    omega
  have HT := Lib.hid (trim_func s w hs ht)
  have HC := Lib.hid (fun w => clone_text L w hls)
  rw [← hL] at HT ⊢
  clear hL hls ht
  go_enter Tryd.func38, Tryd.ntmps38
  go_wp2_with (first
    | (go_at_call 53; refine HT.out.mono ?_; rintro e w2 ⟨rfl, hb2⟩)
    | (go_at_call 52; refine (HC.out _).mono ?_; rintro e w3 ⟨rfl, hb3⟩))
  go_ret
  exact ⟨rfl, hb2.trans (hb3.mono hb2.size)⟩
end Go.Proofs.YtlgofepmdjlpgaaDoor
namespace TextMath

theorem enc_three (a b c : Nat) (ha : a < 256) (hb : b < 256) (hc : c < 256) : enc [a, b, c] = [letter (a / 4), letter (a % 4 * 16 + b / 16), letter (b % 16 * 4 + c / 64), letter (c % 64)] := by
  have e : enc [a, b, c] = [letter (num [a / 128 % 2, a / 64 % 2, a / 32 % 2, a / 16 % 2, a / 8 % 2, a / 4 % 2]), letter (num [a / 2 % 2, a % 2, b / 128 % 2, b / 64 % 2, b / 32 % 2, b / 16 % 2]),
    letter (num [b / 8 % 2, b / 4 % 2, b / 2 % 2, b % 2, c / 128 % 2, c / 64 % 2]), letter (num [c / 32 % 2, c / 16 % 2, c / 8 % 2, c / 4 % 2, c / 2 % 2, c % 2])] := by kernel_rfl
  rw [e]
  simp only [num, List.foldl_cons, List.foldl_nil]
  rw [show (((((0 * 2 + a / 128 % 2) * 2 + a / 64 % 2) * 2 + a / 32 % 2) * 2 + a / 16 % 2) * 2 + a / 8 % 2) * 2 + a / 4 % 2 = a / 4 by omega,
    show (((((0 * 2 + a / 2 % 2) * 2 + a % 2) * 2 + b / 128 % 2) * 2 + b / 64 % 2) * 2 + b / 32 % 2) * 2 + b / 16 % 2 = a % 4 * 16 + b / 16 by omega,
    show (((((0 * 2 + b / 8 % 2) * 2 + b / 4 % 2) * 2 + b / 2 % 2) * 2 + b % 2) * 2 + c / 128 % 2) * 2 + c / 64 % 2 = b % 16 * 4 + c / 64 by omega,
    show (((((0 * 2 + c / 32 % 2) * 2 + c / 16 % 2) * 2 + c / 8 % 2) * 2 + c / 4 % 2) * 2 + c / 2 % 2) * 2 + c % 2 = c % 64 by omega]
theorem enc_two (a b : Nat) (ha : a < 256) (hb : b < 256) : enc [a, b] = [letter (a / 4), letter (a % 4 * 16 + b / 16), letter (b % 16 * 4)] := by
  have e : enc [a, b] = [letter (num [a / 128 % 2, a / 64 % 2, a / 32 % 2, a / 16 % 2, a / 8 % 2, a / 4 % 2]), letter (num [a / 2 % 2, a % 2, b / 128 % 2, b / 64 % 2, b / 32 % 2, b / 16 % 2]),
    letter (num [b / 8 % 2, b / 4 % 2, b / 2 % 2, b % 2, 0, 0])] := by kernel_rfl
  rw [e]
  simp only [num, List.foldl_cons, List.foldl_nil]
  rw [show (((((0 * 2 + a / 128 % 2) * 2 + a / 64 % 2) * 2 + a / 32 % 2) * 2 + a / 16 % 2) * 2 + a / 8 % 2) * 2 + a / 4 % 2 = a / 4 by omega,
    show (((((0 * 2 + a / 2 % 2) * 2 + a % 2) * 2 + b / 128 % 2) * 2 + b / 64 % 2) * 2 + b / 32 % 2) * 2 + b / 16 % 2 = a % 4 * 16 + b / 16 by omega,
    show (((((0 * 2 + b / 8 % 2) * 2 + b / 4 % 2) * 2 + b / 2 % 2) * 2 + b % 2) * 2 + 0) * 2 + 0 = b % 16 * 4 by omega]
theorem enc_one (a : Nat) (ha : a < 256) : enc [a] = [letter (a / 4), letter (a % 4 * 16)] := by
  have e : enc [a] = [letter (num [a / 128 % 2, a / 64 % 2, a / 32 % 2, a / 16 % 2, a / 8 % 2, a / 4 % 2]), letter (num [a / 2 % 2, a % 2, 0, 0, 0, 0])] := by kernel_rfl
  rw [e]
  simp only [num, List.foldl_cons, List.foldl_nil]
  rw [show (((((0 * 2 + a / 128 % 2) * 2 + a / 64 % 2) * 2 + a / 32 % 2) * 2 + a / 16 % 2) * 2 + a / 8 % 2) * 2 + a / 4 % 2 = a / 4 by omega,
    show (((((0 * 2 + a / 2 % 2) * 2 + a % 2) * 2 + 0) * 2 + 0) * 2 + 0) * 2 + 0 = a % 4 * 16 by omega]
/-- Three bytes ahead of the rest. -/
theorem enc_cons (a b c : Nat) (r : List Nat) (ha : a < 256) (hb : b < 256) (hc : c < 256) : enc (a :: b :: c :: r) = letter (a / 4) :: letter (a % 4 * 16 + b / 16) :: letter (b % 16 * 4 + c / 64) :: letter (c % 64) :: enc r := by
  have h := enc_join [a, b, c] r (by simp)
  rw [enc_three a b c ha hb hc] at h
  exact h

/-- The bytes of letters whose numbers are told. -/
theorem dec_join (a b : List Nat) (h : a.length % 4 = 0) : decBytes (a ++ b) = decBytes a ++ decBytes b := by
  obtain ⟨k, hk⟩ : ∃ k, a.length = 4 * k := ⟨a.length / 4, by omega⟩
  have hA : (decBits a).length = 24 * k := by rw [decBits_len, hk]; omega
  have hab : decBits (a ++ b) = decBits a ++ decBits b := by unfold decBits; rw [List.flatMap_append]
  have hla := decBytes_len a
  have hlb := decBytes_len b
  have hlab := decBytes_len (a ++ b)
  rw [List.length_append] at hlab
  apply List.ext_getElem?
  intro j
  by_cases hj : j < 3 * k
  · rw [List.getElem?_append_left (by omega), decBytes_at (a ++ b) j (by rw [List.length_append]; omega), decBytes_at a j (by omega), hab]
    congr 2
    unfold group
    rw [List.drop_append_of_le_length (by omega), List.take_append_of_le_length (by rw [List.length_drop]; omega)]
  · rw [List.getElem?_append_right (by omega), hla]
    by_cases hj2 : j - 3 * k < 6 * b.length / 8
    · rw [decBytes_at (a ++ b) j (by rw [List.length_append]; omega), show 6 * a.length / 8 = 3 * k by omega, decBytes_at b (j - 3 * k) hj2, hab]
      congr 2
      unfold group
      rw [List.drop_append, List.drop_of_length_le (by omega), List.nil_append, hA, show 8 * j - 24 * k = 8 * (j - 3 * k) by omega]
    · rw [List.getElem?_eq_none (by omega), List.getElem?_eq_none (by omega)]
theorem dec_four (a b c d : Nat) : decBytes [a, b, c, d] = [num (bits6 (number a) ++ [number b / 32 % 2, number b / 16 % 2]), num ([number b / 8 % 2, number b / 4 % 2, number b / 2 % 2, number b % 2] ++ [number c / 32 % 2, number c / 16 % 2, number c / 8 % 2, number c / 4 % 2]), num ([number c / 2 % 2, number c % 2] ++ bits6 (number d))] := by kernel_rfl
theorem dec_three (a b c : Nat) : decBytes [a, b, c] = [num (bits6 (number a) ++ [number b / 32 % 2, number b / 16 % 2]), num ([number b / 8 % 2, number b / 4 % 2, number b / 2 % 2, number b % 2] ++ [number c / 32 % 2, number c / 16 % 2, number c / 8 % 2, number c / 4 % 2])] := by kernel_rfl
theorem dec_two (a b : Nat) : decBytes [a, b] = [num (bits6 (number a) ++ [number b / 32 % 2, number b / 16 % 2])] := by kernel_rfl
/-- .. as sums. -/
theorem byte_one (x y : Nat) (hx : x < 64) (hy : y < 64) : num (bits6 x ++ [y / 32 % 2, y / 16 % 2]) = x * 4 + y / 16 := by
  simp only [bits6, num, List.cons_append, List.nil_append, List.foldl_cons, List.foldl_nil]
  omega
theorem byte_two (x y : Nat) (_hx : x < 64) (hy : y < 64) : num ([x / 8 % 2, x / 4 % 2, x / 2 % 2, x % 2] ++ [y / 32 % 2, y / 16 % 2, y / 8 % 2, y / 4 % 2]) = x % 16 * 16 + y / 4 := by
  simp only [num, List.cons_append, List.nil_append, List.foldl_cons, List.foldl_nil]
  omega
theorem byte_three (x y : Nat) (_hx : x < 64) (hy : y < 64) : num ([x / 2 % 2, x % 2] ++ bits6 y) = x % 4 * 64 + y := by
  simp only [bits6, num, List.cons_append, List.nil_append, List.foldl_cons, List.foldl_nil]
  omega
theorem dec_cons (a b c d : Nat) (r : List Nat) (ha : number a < 64) (hb : number b < 64) (hc : number c < 64) (hd : number d < 64) :
    decBytes (a :: b :: c :: d :: r) = (number a * 4 + number b / 16) :: (number b % 16 * 16 + number c / 4) :: (number c % 4 * 64 + number d) :: decBytes r := by
  have h := dec_join [a, b, c, d] r (by simp)
  rw [dec_four, byte_one _ _ ha hb, byte_two _ _ hb hc, byte_three _ _ hc hd] at h
  exact h
theorem dec_last_three (a b c : Nat) (ha : number a < 64) (hb : number b < 64) (hc : number c < 64) : decBytes [a, b, c] = [number a * 4 + number b / 16, number b % 16 * 16 + number c / 4] := by
  rw [dec_three, byte_one _ _ ha hb, byte_two _ _ hb hc]
theorem dec_last_two (a b : Nat) (ha : number a < 64) (hb : number b < 64) : decBytes [a, b] = [number a * 4 + number b / 16] := by
  rw [dec_two, byte_one _ _ ha hb]
end TextMath
