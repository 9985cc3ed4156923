/-
  Texts of one claim, merged.
  TextAwake: What chapter 4's Enc, Dec, Octets, Token promise, said as contracts; and, from these, the contract of the laws' awake: it answers true; old memory is as it was. The conditions: the four contracts.
  TextEnc: The contract of the program's Enc of chapter 4: the letters, one by one. The condition: a text of at most 20,000 bytes.
  TextWrong: The contract of the program's wrong of chapter 4: where the first letter is that can't be, if there is one. The condition: a text of at most 2^47 bytes.
-/
import Derived.Test.YtajhegjemhegiaaDoorPart06
import Derived.Test.YtajhegjemhegiaaDoorPart09
import Derived.Test.YtajhegjemhegiaaDoorPart01
import Derived.KernelRfl
import Derived.Test.YtajhegjemhegiaaDoorPart25
import Derived.Test.YtajhegjemhegiaaDoorBuilder
import Derived.Lib.VarintMem
import Derived.Below
namespace Go.Proofs.YtajhegjemhegiaaDoor
open Go.RowKit TextNat

def EncOk : Prop := ∀ (s : ByteArray) (w : World), s.size ≤ 20000 → Calls Tryd.prog 39 #[.string s] w fun e w' => e = .returned (.string (txt (TextMath.enc (nats s)))) ∧ Below w.heap.size w w'
/-- What Dec answers. -/
def Decoded (l : List Nat) (e : Ending) (w' : World) : Prop :=
  match TextMath.fault l with
  | none => e = .returned (.tuple #[.string (txt (TextMath.decBytes l)), .nilIface])
  | some n => ∃ v, e = .returned (.tuple #[.string ByteArray.empty, v]) ∧ Chain w'.heap.size w' [(⟨#[116, 101, 120, 116]⟩, (n : Int))] (.iface 40 (.int .i64 2)) v
def DecOk : Prop := ∀ (s : ByteArray) (w : World), s.size ≤ 20000 → Calls Tryd.prog 34 #[.string s] w fun e w' => Decoded (nats s) e w' ∧ Below w.heap.size w w'
theorem enc_f : txt (TextMath.enc (nats ⟨#[102]⟩)) = ⟨#[90, 103]⟩ := by kernel_rfl
theorem fault_fo : TextMath.fault (nats ⟨#[90, 109, 56]⟩) = none := by kernel_rfl
theorem dec_fo : txt (TextMath.decBytes (nats ⟨#[90, 109, 56]⟩)) = ⟨#[102, 111]⟩ := by kernel_rfl
theorem octets_no : (nats ⟨#[59]⟩).all TextMath.octet = false := by kernel_rfl
theorem token_a : TextMath.token (nats ⟨#[97]⟩) = true := by kernel_rfl

theorem dec_none {s : ByteArray} (hD : DecOk) (hs : s.size ≤ 20000) (hf : TextMath.fault (nats s) = none) (w : World) :
    Calls Tryd.prog 34 #[.string s] w fun e w' => e = .returned (.tuple #[.string (txt (TextMath.decBytes (nats s))), .nilIface]) ∧ Below w.heap.size w w' := by
  refine (hD s w hs).mono ?_
  rintro e w' ⟨h, hb⟩
  unfold Decoded at h
  rw [hf] at h
  exact ⟨h, hb⟩

end Go.Proofs.YtajhegjemhegiaaDoor
namespace Go.Proofs.YtajhegjemhegiaaDoor
open Go.RowKit TextNat

/-- A builder of one's own that holds these numbers as bytes. -/
def Holds (B : Nat) (l : List Nat) (w : World) : Prop := Lib.IsBuilder 101 5 B B (Lib.byteCells (l.map UInt8.ofNat)) w
theorem Holds.snoc {B c : Nat} {l : List Nat} {w : World} {p : Value} (hc : c < 256) (hp : p = .pointer (some ⟨B, 0, none⟩)) (h : Lib.BuilderAt 101 5 B B p (Lib.byteCells (l.map UInt8.ofNat) ++ [.int .u8 (c : Int)]) w) : Holds B (l ++ [c]) w := by
  subst hp
  unfold Holds
  rw [List.map_append, List.map_cons, List.map_nil, show UInt8.ofNat c = c.toUInt8 from rfl, Lib.byteCells_snoc _ hc]
  exact .inr h
theorem put_byte (B c : Nat) (l : List Nat) (w : World) (h : Holds B l w) (hc : c < 256) (hl : l.length ≤ 100000) (hB : B ≤ w.heap.size) :
    Calls Tryd.prog 51 #[.pointer (some ⟨B, 0, none⟩), .int .u8 (c : Int)] w fun e w' => e = .returned .nilIface ∧ Holds B (l ++ [c]) w' ∧ Below B w w' := by
  refine (Tryd.Builder_WriteByte B B _ (c : Int) w h (by rw [Lib.byteCells_length, List.length_map]; omega) hB).mono ?_
  rintro e w' ⟨rfl, h1, h2⟩
  exact ⟨rfl, Holds.snoc hc rfl h1, h2⟩
theorem told (B : Nat) (l : List Nat) (w : World) (h : Holds B l w) (hB : B ≤ w.heap.size) :
    Calls Tryd.prog 52 #[.pointer (some ⟨B, 0, none⟩)] w fun e w' => e = .returned (.string (txt l)) ∧ Below B w w' :=
  Tryd.Builder_String_any B B _ w h hB
theorem grow_new (n : Nat) (w : World) (hn : n ≤ 100000) :
    Calls Tryd.prog 49 #[.pointer (some ⟨w.heap.size, 0, none⟩), .int .i64 (n : Int)] (w.alloc (.cells #[.pointer none, .slice none 0 0] 101)) fun e w' => e = .returned (.tuple #[]) ∧ Holds w.heap.size [] w' ∧ Below w.heap.size w w' := by
  refine (Tryd.Builder_Grow_fresh w.heap.size w.heap.size n _ (Nat.le_refl _) (heap_alloc_new w _) (by simp) (by omega)).mono ?_
  rintro e w' ⟨rfl, h1, h2⟩
  exact ⟨rfl, .inr h1, ((Below.refl _ _).alloc (Nat.le_refl _) _).trans h2⟩

theorem drop_step {l : List Nat} {i z : Nat} (h : l[i]? = some z) : l.drop i = z :: l.drop (i + 1) := by
  obtain ⟨hi, h1⟩ := List.getElem?_eq_some_iff.1 h
  rw [List.drop_eq_getElem_cons hi, h1]
theorem ofInt_u32 (a : Nat) (ha : a < 4294967296) : (BitVec.ofInt 32 (a : Int)).toNat = a := by
  rw [BitVec.ofInt_natCast, BitVec.toNat_ofNat]; exact Nat.mod_eq_of_lt (by omega)
theorem u32_or (a b : Nat) (ha : a < 4294967296) (hb : b < 4294967296) : bits .or .u32 (a : Int) (b : Int) = ((a ||| b : Nat) : Int) := by
  have hx : a ||| b < 2 ^ 32 := Nat.or_lt_two_pow (by omega) (by omega)
  show IntKind.u32.wrap ((BitVec.ofInt 32 (a : Int) ||| BitVec.ofInt 32 (b : Int)).toNat : Int) = _
  rw [BitVec.toNat_or, ofInt_u32 a ha, ofInt_u32 b hb, IntKind.wrap_u32]
  omega
theorem u32_and (a b : Nat) (ha : a < 4294967296) (hb : b < 4294967296) : bits .and .u32 (a : Int) (b : Int) = ((a &&& b : Nat) : Int) := by
  have hx : a &&& b < 2 ^ 32 := Nat.and_lt_two_pow _ (by omega)
  show IntKind.u32.wrap ((BitVec.ofInt 32 (a : Int) &&& BitVec.ofInt 32 (b : Int)).toNat : Int) = _
  rw [BitVec.toNat_and, ofInt_u32 a ha, ofInt_u32 b hb, IntKind.wrap_u32]
  omega
theorem or_byte (h z : Nat) (hz : z < 256) : bits .or .u32 ((h : Int) * 256 % 4294967296) (z : Int) = ((h % 16777216 * 256 + z : Nat) : Int) := by
  have e : (h : Int) * 256 % 4294967296 = ((2 ^ 8 * (h % 16777216) : Nat) : Int) := by omega
  rw [e, u32_or _ _ (by omega) (by omega), ← Nat.two_pow_add_eq_or_of_lt (by omega)]
  omega
theorem and_63 (x p : Nat) (hx : x < 4294967296) : bits .and .u32 ((x : Int) / 2 ^ p) 63 = ((x / 2 ^ p % 64 : Nat) : Int) := by
  have e : (x : Int) / 2 ^ p = ((x / 2 ^ p : Nat) : Int) := by rw [Int.natCast_ediv, Int.natCast_pow]; rfl
  have h1 : x / 2 ^ p < 4294967296 := Nat.lt_of_le_of_lt (Nat.div_le_self _ _) hx
  have h2 := u32_and (x / 2 ^ p) 63 h1 (by decide)
  rw [show (63 : Nat) = 2 ^ 6 - 1 from rfl, Nat.and_two_pow_sub_one_eq_mod] at h2
  rw [e]
  exact h2
theorem and_63_up (x n p : Nat) (h0 : 0 < n) (hn : n < 6) (hp : p = 6 - n) : bits .and .u32 ((x : Int) * 2 ^ p % 4294967296) 63 = ((x % 2 ^ n * 2 ^ p % 64 : Nat) : Int) := by
  have e : (x : Int) * 2 ^ p % 4294967296 = ((x * 2 ^ p % 4294967296 : Nat) : Int) := by rw [Int.natCast_emod, Int.natCast_mul, Int.natCast_pow]; rfl
  have h2 := u32_and (x * 2 ^ p % 4294967296) 63 (Nat.mod_lt _ (by decide)) (by decide)
  rw [show (63 : Nat) = 2 ^ 6 - 1 from rfl, Nat.and_two_pow_sub_one_eq_mod] at h2
  rw [e]
  refine h2.trans (congrArg Nat.cast ?_)
  subst hp
  have : n = 1 ∨ n = 2 ∨ n = 3 ∨ n = 4 ∨ n = 5 := by omega
  rcases this with rfl | rfl | rfl | rfl | rfl <;> simp only [Nat.reducePow, Nat.reduceSub] <;> omega
theorem alphabet_at : ∀ (k : Nat) (h : k < (⟨#[65, 66, 67, 68, 69, 70, 71, 72, 73, 74, 75, 76, 77, 78, 79, 80, 81, 82, 83, 84, 85, 86, 87, 88, 89, 90, 97, 98, 99, 100, 101, 102, 103, 104, 105, 106, 107, 108, 109, 110, 111, 112, 113, 114, 115, 116, 117, 118, 119, 120, 121, 122, 48, 49, 50, 51, 52, 53, 54, 55, 56, 57, 45, 95]⟩ : ByteArray).size), ((⟨#[65, 66, 67, 68, 69, 70, 71, 72, 73, 74, 75, 76, 77, 78, 79, 80, 81, 82, 83, 84, 85, 86, 87, 88, 89, 90, 97, 98, 99, 100, 101, 102, 103, 104, 105, 106, 107, 108, 109, 110, 111, 112, 113, 114, 115, 116, 117, 118, 119, 120, 121, 122, 48, 49, 50, 51, 52, 53, 54, 55, 56, 57, 45, 95]⟩ : ByteArray)[k]'h).toNat = TextMath.letter k := by
  intro k h
  have h64 : k < 64 := h
  have ht : ∀ i : Fin 64, ((⟨#[65, 66, 67, 68, 69, 70, 71, 72, 73, 74, 75, 76, 77, 78, 79, 80, 81, 82, 83, 84, 85, 86, 87, 88, 89, 90, 97, 98, 99, 100, 101, 102, 103, 104, 105, 106, 107, 108, 109, 110, 111, 112, 113, 114, 115, 116, 117, 118, 119, 120, 121, 122, 48, 49, 50, 51, 52, 53, 54, 55, 56, 57, 45, 95]⟩ : ByteArray)[i.val]'i.isLt).toNat = TextMath.letter i.val := by decide
  exact ht ⟨k, h64⟩
theorem low_part (g q : Nat) (h6 : 6 ≤ q) (hq : q < 14) : g % 2 ^ q / 2 ^ (q - 6) % 64 = g / 2 ^ (q - 6) % 64 := by
  have : q = 6 ∨ q = 7 ∨ q = 8 ∨ q = 9 ∨ q = 10 ∨ q = 11 ∨ q = 12 ∨ q = 13 := by omega
  rcases this with rfl | rfl | rfl | rfl | rfl | rfl | rfl | rfl <;> simp only [Nat.reducePow, Nat.reduceSub] <;> omega
theorem low_rest (g q : Nat) (h6 : 6 ≤ q) : g % 2 ^ q % 2 ^ (q - 6) = g % 2 ^ (q - 6) := Nat.mod_mod_of_dvd _ (Nat.pow_dvd_pow 2 (by omega))
theorem held_byte (h z n : Nat) (hz : z < 256) (hn : n < 6) : (h % 16777216 * 256 + z) % 2 ^ (n + 8) = h % 2 ^ n * 256 + z := by
  have : n = 0 ∨ n = 1 ∨ n = 2 ∨ n = 3 ∨ n = 4 ∨ n = 5 := by omega
  rcases this with rfl | rfl | rfl | rfl | rfl | rfl <;> simp only [Nat.reducePow, Nat.reduceAdd] <;> omega

set_option maxRecDepth 100000 in
set_option maxHeartbeats 4000000 in
theorem encOk : EncOk := by
  intro s w hs
  have hg := grow_new ((s.size * 8 + 5) / 6) w (by omega)
  rw [show (((s.size * 8 + 5) / 6 : Nat) : Int) = ((s.size : Int) * 8 + 5) / 6 by omega] at hg
  have HG := Lib.hid hg
  obtain ⟨l, hl⟩ : ∃ l, l = nats s := ⟨_, rfl⟩
  have hll : l.length = s.size := by rw [hl]; exact nats_len s
  have hlb : ∀ b ∈ l, b < 256 := by rw [hl]; exact nats_lt s
  have HE := Lib.hid (TextMath.letters_all l hlb)
  have HL := Lib.hid hl
  have HLL := Lib.hid hll
  rw [← hl]
  clear hg hl hll hlb
  go_enter Tryd.func39, Tryd.ntmps39
  go_wp2_with (go_at_call 49; refine HG.out.mono ?_; rintro e w2 ⟨rfl, h0, hb0⟩; have H0 := Lib.hid h0; have HB0 := Lib.hid hb0; clear h0 hb0)
  go_loopg [4, 5, 15] s.size (fun gh s4 s5 s15 wx => ∃ i h n : Nat, ∃ acc : List Nat, i + gh = s.size ∧ s4 = .int .u32 (h : Int) ∧ s5 = .int .i64 (n : Int) ∧ s15 = .int .i64 (i : Int) ∧ h < 4294967296 ∧ n < 6 ∧
    Hid (acc ++ TextMath.lettersFrom n (h % 2 ^ n) (l.drop i) = TextMath.enc l) ∧ Hid (6 * acc.length + n = 8 * i) ∧ Holds w.heap.size acc wx ∧ Below w.heap.size w wx)
  case atStart => exact ⟨0, 0, 0, [], by omega, by go_num, by go_num, by go_num, by omega, by omega, Lib.hid HE.out, Lib.hid rfl, H0.out, HB0.out⟩
  case round =>
    obtain ⟨i, h, n, acc, hi, rfl, rfl, rfl, hh, hn, he, ha, hown, hb⟩ := hrel
    clear H0 HB0
    by_cases hlt : i < s.size
    · have t1 : decide ((i : Int) < (s.size : Int)) = true := decide_eq_true (by omega)
      have t1' : decide (i < s.size) = true := decide_eq_true hlt
      obtain ⟨z, hz⟩ : ∃ z, z = (s[i]'hlt).toNat := ⟨_, rfl⟩
      have hx : ((s[i]'hlt).toNat : Int) = (z : Int) := by rw [hz]
      have hzl : z < 256 := by rw [hz]; exact UInt8.toNat_lt _
      have hzi : l[i]? = some z := by rw [hz, HL.out]; exact nats_at s i hlt
      obtain ⟨r, hr⟩ : ∃ r, r = l.drop (i + 1) := ⟨_, rfl⟩
      have hd : l.drop i = z :: r := by rw [hr]; exact drop_step hzi
      obtain ⟨g, hg⟩ : ∃ g, g = h % 16777216 * 256 + z := ⟨_, rfl⟩
      have hgl : g < 4294967296 := by omega
      have e3 : bits .or .u32 ((h : Int) * 256 % 4294967296) (z : Int) = (g : Int) := by rw [hg]; exact or_byte h z hzl
      obtain ⟨m, hm⟩ : ∃ m, m = n + 8 := ⟨_, rfl⟩
      have em : (n : Int) + 8 = (m : Int) := by omega
      have hml : m < 14 := by omega
      have H1 := Lib.hid (show acc ++ TextMath.lettersFrom m (g % 2 ^ m) r = TextMath.enc l by
        rw [← he.out, hd, TextMath.letters_take _ _ _ hn, hm, hg, held_byte h z n hzl hn])
      have H2 := Lib.hid (show 6 * acc.length + m = 8 * (i + 1) by have := ha.out; omega)
      have HR := Lib.hid hr
      have HO := Lib.hid hown
      have HB := Lib.hid hb
      clear hz hzi hown hb he ha hr hd hg hm
      go_wp2_with fail
      go_loopg [5] m (fun gh s5 wx => ∃ q : Nat, ∃ acc : List Nat, q = gh ∧ s5 = .int .i64 (q : Int) ∧ q < 14 ∧
        Hid (acc ++ TextMath.lettersFrom q (g % 2 ^ q) r = TextMath.enc l) ∧ Hid (6 * acc.length + q = 8 * (i + 1)) ∧ Holds w.heap.size acc wx ∧ Below w.heap.size w wx)
      case atStart => exact ⟨m, acc, rfl, rfl, hml, H1, H2, HO.out, HB.out⟩
      case round =>
        obtain ⟨q, acc, rfl, rfl, hq, he, ha, hown, hb⟩ := hrel
        clear H1 H2 HO HB
        by_cases h6 : 6 ≤ q
        · obtain ⟨p, hp⟩ : ∃ p, p = q - 6 := ⟨_, rfl⟩
          have ep : (q : Int) - 6 = (p : Int) := by omega
          obtain ⟨v, hv⟩ : ∃ v, v = g / 2 ^ p % 64 := ⟨_, rfl⟩
          have hvl : v < 64 := by omega
          have k4 : bits .and .u32 ((g : Int) / 2 ^ p) 63 = (v : Int) := by rw [hv]; exact and_63 g p hgl
          have v0 : 0 ≤ (v : Int) := by omega
          have v64 : (v : Int) < 64 := by omega
          have hpl : p < 64 := by omega
          obtain ⟨y, hy⟩ : ∃ y, y = TextMath.letter v := ⟨_, rfl⟩
          have hyl : y < 256 := by rw [hy]; exact TextMath.letter_lt v hvl
          have hvs : v < (⟨#[65, 66, 67, 68, 69, 70, 71, 72, 73, 74, 75, 76, 77, 78, 79, 80, 81, 82, 83, 84, 85, 86, 87, 88, 89, 90, 97, 98, 99, 100, 101, 102, 103, 104, 105, 106, 107, 108, 109, 110, 111, 112, 113, 114, 115, 116, 117, 118, 119, 120, 121, 122, 48, 49, 50, 51, 52, 53, 54, 55, 56, 57, 45, 95]⟩ : ByteArray).size := hvl
          have hyx : (((⟨#[65, 66, 67, 68, 69, 70, 71, 72, 73, 74, 75, 76, 77, 78, 79, 80, 81, 82, 83, 84, 85, 86, 87, 88, 89, 90, 97, 98, 99, 100, 101, 102, 103, 104, 105, 106, 107, 108, 109, 110, 111, 112, 113, 114, 115, 116, 117, 118, 119, 120, 121, 122, 48, 49, 50, 51, 52, 53, 54, 55, 56, 57, 45, 95]⟩ : ByteArray)[v]'hvs).toNat : Int) = (y : Int) := by rw [alphabet_at v hvs, hy]
          have N1 := Lib.hid (show (acc ++ [y]) ++ TextMath.lettersFrom p (g % 2 ^ p) r = TextMath.enc l by
            rw [← he.out, TextMath.letters_put _ _ h6, hy, hv, hp, List.append_assoc, low_part g q h6 (by omega), low_rest g q h6]
            rfl)
          have N2 := Lib.hid (show 6 * (acc ++ [y]).length + p = 8 * (i + 1) by have := ha.out; rw [List.length_append]; simp only [List.length_cons, List.length_nil]; omega)
          have hal : acc.length ≤ 100000 := by have := ha.out; omega
          have HPQ := Lib.hid (show p < q by omega)
          have h6d : decide (6 ≤ (q : Int)) = true := decide_eq_true (by omega)
          have HO := Lib.hid hown
          have HB := Lib.hid hb
          have HW := Lib.hid hb.size
          clear hown hb he ha hp hv hy h6
          go_wp2_with (go_at_call 51; refine (put_byte w.heap.size y acc _ HO.out hyl hal HW.out).mono ?_; rintro e w3 ⟨rfl, h3, hb3⟩; have HO3 := Lib.hid h3; have HB3 := Lib.hid (HB.out.trans hb3); clear h3 hb3)
          go_roundg p
          case measure => exact HPQ.out
          case rel => exact ⟨p, acc ++ [y], rfl, rfl, by have := HPQ.out; omega, N1, N2, HO3.out, HB3.out⟩
        · have h6d : decide (6 ≤ (q : Int)) = false := decide_eq_false (by omega)
          have HO := Lib.hid hown
          have HB := Lib.hid hb
          have H6 := Lib.hid h6
          rw [HR.out] at he
          clear hown hb h6
          go_wp2_with fail
          go_roundg (s.size - (i + 1))
          case measure => omega
          case rel => exact ⟨i + 1, g, q, acc, by omega, rfl, rfl, by go_num, hgl, by have := H6.out; omega, he, ha, HO.out, HB.out⟩
    · obtain rfl : i = s.size := by omega
      have t1 : decide (s.size < s.size) = false := decide_eq_false (by omega)
      have HD := Lib.hid (show l.drop s.size = [] by rw [← HLL.out]; exact List.drop_length)
      have HO := Lib.hid hown
      have HB := Lib.hid hb
      have HW := Lib.hid hb.size
      clear hown hb
      by_cases hn0 : 0 < n
      · have t2 : decide (0 < n) = true := decide_eq_true hn0
        have t2' : decide (0 < (n : Int)) = true := decide_eq_true (by omega)
        obtain ⟨p, hp⟩ : ∃ p, p = 6 - n := ⟨_, rfl⟩
        have ep : 6 - (n : Int) = (p : Int) := by omega
        have hpl : p < 64 := by omega
        obtain ⟨v, hv⟩ : ∃ v, v = h % 2 ^ n * 2 ^ p % 64 := ⟨_, rfl⟩
        have hvl : v < 64 := by omega
        have k4 : bits .and .u32 ((h : Int) * 2 ^ p % 4294967296) 63 = (v : Int) := by rw [hv]; exact and_63_up h n p hn0 hn hp
        have v0 : 0 ≤ (v : Int) := by omega
        have v64 : (v : Int) < 64 := by omega
        obtain ⟨y, hy⟩ : ∃ y, y = TextMath.letter v := ⟨_, rfl⟩
        have hyl : y < 256 := by rw [hy]; exact TextMath.letter_lt v hvl
        have hvs : v < (⟨#[65, 66, 67, 68, 69, 70, 71, 72, 73, 74, 75, 76, 77, 78, 79, 80, 81, 82, 83, 84, 85, 86, 87, 88, 89, 90, 97, 98, 99, 100, 101, 102, 103, 104, 105, 106, 107, 108, 109, 110, 111, 112, 113, 114, 115, 116, 117, 118, 119, 120, 121, 122, 48, 49, 50, 51, 52, 53, 54, 55, 56, 57, 45, 95]⟩ : ByteArray).size := hvl
        have hyx : (((⟨#[65, 66, 67, 68, 69, 70, 71, 72, 73, 74, 75, 76, 77, 78, 79, 80, 81, 82, 83, 84, 85, 86, 87, 88, 89, 90, 97, 98, 99, 100, 101, 102, 103, 104, 105, 106, 107, 108, 109, 110, 111, 112, 113, 114, 115, 116, 117, 118, 119, 120, 121, 122, 48, 49, 50, 51, 52, 53, 54, 55, 56, 57, 45, 95]⟩ : ByteArray)[v]'hvs).toNat : Int) = (y : Int) := by rw [alphabet_at v hvs, hy]
        have N1 := Lib.hid (show acc ++ [y] = TextMath.enc l by
          rw [← he.out, HD.out, TextMath.letters_end _ hn, if_pos hn0, hy, hv, hp])
        have hal : acc.length ≤ 100000 := by have := ha.out; omega
        clear he ha hp hv hy hn0
        go_wp2_with (first
          | (go_at_call 51; refine (put_byte w.heap.size y acc _ HO.out hyl hal HW.out).mono ?_; rintro e w3 ⟨rfl, h3, hb3⟩; have HO3 := Lib.hid h3; have HB3 := Lib.hid (HB.out.trans hb3); have HW3 := Lib.hid HB3.out.size; clear h3 hb3)
          | (go_at_call 52; refine (told w.heap.size _ _ HO3.out HW3.out).mono ?_; rintro e w4 ⟨rfl, hb4⟩; have HB4 := Lib.hid (HB3.out.trans hb4); clear hb4))
        go_ret
        exact ⟨by rw [← N1.out]; rfl, HB4.out⟩
      · have t2 : decide (0 < n) = false := decide_eq_false hn0
        have t2' : decide (0 < (n : Int)) = false := decide_eq_false (by omega)
        have N1 := Lib.hid (show acc = TextMath.enc l by
          rw [← he.out, HD.out, TextMath.letters_end _ hn, if_neg hn0, List.append_nil])
        clear he ha hn0
        go_wp2_with (go_at_call 52; refine (told w.heap.size _ _ HO.out HW.out).mono ?_; rintro e w4 ⟨rfl, hb4⟩; have HB4 := Lib.hid (HB.out.trans hb4); clear hb4)
        go_ret
        exact ⟨by rw [← N1.out]; rfl, HB4.out⟩
end Go.Proofs.YtajhegjemhegiaaDoor
namespace Go.Proofs.YtajhegjemhegiaaDoor
open Go.RowKit TextNat

/-- What wrong answers. -/
def wrongValue (l : List Nat) : Value :=
  match TextMath.fault l with
  | some n => .tuple #[.int .i64 (n : Int), .bool true]
  | none => .tuple #[.int .i64 0, .bool false]

theorem and_15 (x : Nat) (hx : x < 64) : bits .and .u32 (x : Int) 15 = ((x % 16 : Nat) : Int) := by
  have h2 := u32_and x 15 (by omega) (by decide)
  rw [show (15 : Nat) = 2 ^ 4 - 1 from rfl, Nat.and_two_pow_sub_one_eq_mod] at h2
  exact h2
theorem and_3 (x : Nat) (hx : x < 64) : bits .and .u32 (x : Int) 3 = ((x % 4 : Nat) : Int) := by
  have h2 := u32_and x 3 (by omega) (by decide)
  rw [show (3 : Nat) = 2 ^ 2 - 1 from rfl, Nat.and_two_pow_sub_one_eq_mod] at h2
  exact h2

set_option maxRecDepth 100000 in
set_option maxHeartbeats 4000000 in
theorem wrongOk (s : ByteArray) (w : World) (hs : s.size ≤ 140737488355328) : Calls Tryd.prog 48 #[.string s] w fun e w' => e = .returned (wrongValue (nats s)) ∧ w' = w := by
  obtain ⟨l, hl⟩ : ∃ l, l = nats s := ⟨_, rfl⟩
  have hll : l.length = s.size := by rw [hl]; exact nats_len s
  have HL := Lib.hid hl
  have HLL := Lib.hid hll
  rw [← hl]
  clear hl hll
  go_enter Tryd.func48, Tryd.ntmps48
  go_wp2
  go_loopg [8] s.size (fun gh s8 wx => ∃ i : Nat, i + gh = s.size ∧ s8 = .int .i64 (i : Int) ∧ Hid (∀ j y : Nat, j < i → l[j]? = some y → TextMath.number y < 64) ∧ wx = w)
  case atStart => exact ⟨0, by omega, by go_num, Lib.hid (fun j y h => absurd h (by omega)), rfl⟩
  case round =>
    obtain ⟨i, hi, rfl, hn, rfl⟩ := hrel
    by_cases hlt : i < s.size
    · have t1 : decide ((i : Int) < (s.size : Int)) = true := decide_eq_true (by omega)
      have t1' : decide (i < s.size) = true := decide_eq_true hlt
      obtain ⟨z, hz⟩ : ∃ z, z = (s[i]'hlt).toNat := ⟨_, rfl⟩
      have hx : ((s[i]'hlt).toNat : Int) = (z : Int) := by rw [hz]
      have hzl : z < 256 := by rw [hz]; exact UInt8.toNat_lt _
      have hzi : l[i]? = some z := by rw [hz, HL.out]; exact nats_at s i hlt
      have HNU := Lib.hid (fun w => numberOk z w hzl)
      have hle := TextMath.number_le z
      by_cases hb : TextMath.number z = 64
      · have HF := Lib.hid (TextMath.fault_letter hzi hb (fun j y hj h => hn.out j y hj h))
        rw [hb] at HNU
        clear hn hz hzi hb hle
        go_wp2_with (go_at_call 50; refine (HNU.out _).mono ?_; rintro e w2 ⟨rfl, rfl⟩)
        go_ret2
        exact ⟨by unfold wrongValue; rw [HF.out]; rfl, rfl⟩
      · have HN := Lib.hid (show ∀ j y : Nat, j < i + 1 → l[j]? = some y → TextMath.number y < 64 from fun j y hj h => by
          by_cases e : j = i
          · subst e
            rw [hzi] at h
            obtain rfl := Option.some.inj h
            omega
          · exact hn.out j y (by omega) h)
        obtain ⟨x, hxd⟩ : ∃ x, x = TextMath.number z := ⟨_, rfl⟩
        rw [← hxd] at HNU hle hb
        have t2 : decide (63 < (x : Int)) = false := decide_eq_false (by omega)
        clear hn hz hzi hb hxd
        go_wp2_with (go_at_call 50; refine (HNU.out _).mono ?_; rintro e w2 ⟨rfl, rfl⟩)
        go_roundg (s.size - (i + 1))
        case measure => omega
        case rel => exact ⟨i + 1, by omega, by go_num, HN, rfl⟩
    · obtain rfl : i = s.size := by omega
      have t1 : decide (s.size < s.size) = false := decide_eq_false (by omega)
      have hall : ∀ j y : Nat, l[j]? = some y → TextMath.number y < 64 := fun j y h => hn.out j y (by have := (List.getElem?_eq_some_iff.1 h).1; rw [HLL.out] at this; exact this) h
      clear hn
      have hm : s.size % 4 = 0 ∨ s.size % 4 = 1 ∨ s.size % 4 = 2 ∨ s.size % 4 = 3 := by omega
      rcases hm with hm | hm | hm | hm
      · have m4 : (s.size : Int) % 4 = 0 := by omega
        have HF := Lib.hid (TextMath.fault_zero hall (by rw [HLL.out]; exact hm))
        clear hall hm
        go_wp2_with fail
        go_ret2
        exact ⟨by unfold wrongValue; rw [HF.out]; rfl, rfl⟩
      · have m4 : (s.size : Int) % 4 = 1 := by omega
        have HF := Lib.hid (TextMath.fault_count hall (by rw [HLL.out]; exact hm))
        rw [HLL.out] at HF
        clear hall hm
        go_wp2_with fail
        go_ret2
        exact ⟨by unfold wrongValue; rw [HF.out]; rfl, rfl⟩
      · have m4 : (s.size : Int) % 4 = 2 := by omega
        obtain ⟨k, hk⟩ : ∃ k, k = s.size - 1 := ⟨_, rfl⟩
        have hkl : k < s.size := by omega
        have ek : (s.size : Int) - 1 = (k : Int) := by omega
        obtain ⟨y, hy⟩ : ∃ y, y = (s[k]'hkl).toNat := ⟨_, rfl⟩
        have hyx : ((s[k]'hkl).toNat : Int) = (y : Int) := by rw [hy]
        have hyl : y < 256 := by rw [hy]; exact UInt8.toNat_lt _
        have hyi : l[l.length - 1]? = some y := by rw [HLL.out, ← hk, hy, HL.out]; exact nats_at s k hkl
        have hF := TextMath.fault_two hall (by rw [HLL.out]; exact hm) hyi
        rw [HLL.out, ← hk] at hF
        have HNU := Lib.hid (fun w => numberOk y w hyl)
        have hx64 := hall _ _ hyi
        obtain ⟨x, hx⟩ : ∃ x, x = TextMath.number y := ⟨_, rfl⟩
        rw [← hx] at HNU hF hx64
        obtain ⟨u, hu⟩ : ∃ u, u = x % 16 := ⟨_, rfl⟩
        have k5 : bits .and .u32 (x : Int) 15 = (u : Int) := by rw [hu]; exact and_15 x hx64
        rw [← hu] at hF
        by_cases hu0 : u = 0
        · rw [if_pos hu0] at hF
          have HF := Lib.hid hF
          have k6 : ((u : Int) != 0) = false := by simp [hu0]
          clear hall hm hk hy hyi hF hx hu hu0
          go_wp2_with (go_at_call 50; refine (HNU.out _).mono ?_; rintro e w2 ⟨rfl, rfl⟩)
          go_ret2
          exact ⟨by unfold wrongValue; rw [HF.out]; rfl, rfl⟩
        · rw [if_neg hu0] at hF
          have HF := Lib.hid hF
          have k6 : ((u : Int) != 0) = true := by simp [hu0]
          clear hall hm hk hy hyi hF hx hu hu0
          go_wp2_with (go_at_call 50; refine (HNU.out _).mono ?_; rintro e w2 ⟨rfl, rfl⟩)
          go_ret2
          exact ⟨by unfold wrongValue; rw [HF.out]; rfl, rfl⟩
      · have m4 : (s.size : Int) % 4 = 3 := by omega
        obtain ⟨k, hk⟩ : ∃ k, k = s.size - 1 := ⟨_, rfl⟩
        have hkl : k < s.size := by omega
        have ek : (s.size : Int) - 1 = (k : Int) := by omega
        obtain ⟨y, hy⟩ : ∃ y, y = (s[k]'hkl).toNat := ⟨_, rfl⟩
        have hyx : ((s[k]'hkl).toNat : Int) = (y : Int) := by rw [hy]
        have hyl : y < 256 := by rw [hy]; exact UInt8.toNat_lt _
        have hyi : l[l.length - 1]? = some y := by rw [HLL.out, ← hk, hy, HL.out]; exact nats_at s k hkl
        have hF := TextMath.fault_three hall (by rw [HLL.out]; exact hm) hyi
        rw [HLL.out, ← hk] at hF
        have HNU := Lib.hid (fun w => numberOk y w hyl)
        have hx64 := hall _ _ hyi
        obtain ⟨x, hx⟩ : ∃ x, x = TextMath.number y := ⟨_, rfl⟩
        rw [← hx] at HNU hF hx64
        obtain ⟨u, hu⟩ : ∃ u, u = x % 4 := ⟨_, rfl⟩
        have k5 : bits .and .u32 (x : Int) 3 = (u : Int) := by rw [hu]; exact and_3 x hx64
        rw [← hu] at hF
        by_cases hu0 : u = 0
        · rw [if_pos hu0] at hF
          have HF := Lib.hid hF
          have k6 : ((u : Int) != 0) = false := by simp [hu0]
          clear hall hm hk hy hyi hF hx hu hu0
          go_wp2_with (go_at_call 50; refine (HNU.out _).mono ?_; rintro e w2 ⟨rfl, rfl⟩)
          go_ret2
          exact ⟨by unfold wrongValue; rw [HF.out]; rfl, rfl⟩
        · rw [if_neg hu0] at hF
          have HF := Lib.hid hF
          have k6 : ((u : Int) != 0) = true := by simp [hu0]
          clear hall hm hk hy hyi hF hx hu hu0
          go_wp2_with (go_at_call 50; refine (HNU.out _).mono ?_; rintro e w2 ⟨rfl, rfl⟩)
          go_ret2
          exact ⟨by unfold wrongValue; rw [HF.out]; rfl, rfl⟩
end Go.Proofs.YtajhegjemhegiaaDoor
