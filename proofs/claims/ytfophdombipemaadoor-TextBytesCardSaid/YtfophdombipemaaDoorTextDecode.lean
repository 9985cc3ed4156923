/-
  The contract of the program's Dec of chapter 4: the bytes, one by one, or the place of the first letter that can't be. The condition: a text of at most 20,000 bytes.
-/
import Derived.Test.YtfophdombipemaaDoorTextWrong
namespace Go.Proofs.YtfophdombipemaaDoor
open Go.RowKit TextNat

theorem or_six (h x : Nat) (hx : x < 64) : bits .or .u32 ((h : Int) * 64 % 4294967296) (x : Int) = ((h % 67108864 * 64 + x : Nat) : Int) := by
  have e : (h : Int) * 64 % 4294967296 = ((2 ^ 6 * (h % 67108864) : Nat) : Int) := by omega
  rw [e, u32_or _ _ (by omega) (by omega), ← Nat.two_pow_add_eq_or_of_lt (by omega)]
  omega
theorem held_six (h x n : Nat) (hx : x < 64) (hn : n < 8) : (h % 67108864 * 64 + x) % 2 ^ (n + 6) = h % 2 ^ n * 64 + x := by
  have : n = 0 ∨ n = 1 ∨ n = 2 ∨ n = 3 ∨ n = 4 ∨ n = 5 ∨ n = 6 ∨ n = 7 := by omega
  rcases this with rfl | rfl | rfl | rfl | rfl | rfl | rfl | rfl <;> simp only [Nat.reducePow, Nat.reduceAdd] <;> omega
theorem low_byte (g q : Nat) (h8 : 8 ≤ q) (hq : q < 14) : g % 2 ^ q / 2 ^ (q - 8) % 256 = g / 2 ^ (q - 8) % 256 := by
  have : q = 8 ∨ q = 9 ∨ q = 10 ∨ q = 11 ∨ q = 12 ∨ q = 13 := by omega
  rcases this with rfl | rfl | rfl | rfl | rfl | rfl <;> simp only [Nat.reducePow, Nat.reduceSub] <;> omega
theorem byte_of (g p : Nat) : ((g : Int) / 2 ^ p) % 256 = ((g / 2 ^ p % 256 : Nat) : Int) := by
  have e : (g : Int) / 2 ^ p = ((g / 2 ^ p : Nat) : Int) := by rw [Int.natCast_ediv, Int.natCast_pow]; rfl
  rw [e]
  omega

/-- Where a letter can't be. -/
theorem dec_bad (s : ByteArray) (w : World) (hs : s.size ≤ 20000) (n : Nat) (hf : TextMath.fault (nats s) = some n) :
    Calls Tryd.prog 6 #[.string s] w fun e w' => (∃ v, e = .returned (.tuple #[.string ByteArray.empty, v]) ∧ Chain w'.heap.size w' [(⟨#[116, 101, 120, 116]⟩, (n : Int))] (.iface 33 (.int .i64 2)) v) ∧ Below w.heap.size w w' := by
  have h1 := fun w => wrongOk s w hs
  unfold wrongValue at h1
  rw [hf] at h1
  have HWR := Lib.hid h1
  clear h1 hf
  have HAT := Lib.hid (fun w => at_chain ⟨#[116, 101, 120, 116]⟩ (n : Int) [] 2 (.iface 33 (.int .i64 2)) w rfl)
  go_enter Tryd.func6, Tryd.ntmps6
  go_wp2_with (first
    | (go_at_call 17; refine (HWR.out _).mono ?_; rintro e w2 ⟨rfl, rfl⟩)
    | (go_at_call 18; refine (HAT.out _).mono ?_; rintro e w3 ⟨r, rfl, hc, hb⟩))
  go_ret2
  exact ⟨⟨r, rfl, hc⟩, hb⟩

set_option maxRecDepth 100000 in
set_option maxHeartbeats 4000000 in
/-- Where all can be. -/
theorem dec_good (s : ByteArray) (w : World) (hs : s.size ≤ 20000) (hf : TextMath.fault (nats s) = none) :
    Calls Tryd.prog 6 #[.string s] w fun e w' => e = .returned (.tuple #[.string (txt (TextMath.decBytes (nats s))), .nilIface]) ∧ Below w.heap.size w w' := by
  have h1 := fun w => wrongOk s w hs
  unfold wrongValue at h1
  rw [hf] at h1
  have HWR := Lib.hid h1
  have hg := grow_new (s.size * 6 / 8) w (by omega)
  rw [show ((s.size * 6 / 8 : Nat) : Int) = (s.size : Int) * 6 / 8 by omega] at hg
  have HG := Lib.hid hg
  obtain ⟨l, hl⟩ : ∃ l, l = nats s := ⟨_, rfl⟩
  have hll : l.length = s.size := by rw [hl]; exact nats_len s
  rw [← hl] at hf
  obtain ⟨f1, f2, _⟩ := TextMath.fault_says hf
  have HE := Lib.hid (TextMath.bytes_all l (fun c hc => by
    obtain ⟨j, hj⟩ := List.getElem?_of_mem hc
    exact f1 j c hj) f2)
  have HF1 := Lib.hid f1
  have HL := Lib.hid hl
  have HLL := Lib.hid hll
  rw [← hl]
  clear hg hl hll h1 hf f1 f2
  go_enter Tryd.func6, Tryd.ntmps6
  go_wp2_with (first
    | (go_at_call 17; refine (HWR.out _).mono ?_; rintro e w2 ⟨rfl, hw⟩; obtain rfl := hw.symm; clear hw)
    | (go_at_call 19; refine HG.out.mono ?_; rintro e w2 ⟨rfl, h0, hb0⟩; have H0 := Lib.hid h0; have HB0 := Lib.hid hb0; clear h0 hb0))
  go_loopg [7, 8, 26] s.size (fun gh s7 s8 s26 wx => ∃ i h n : Nat, ∃ acc : List Nat, i + gh = s.size ∧ s7 = .int .u32 (h : Int) ∧ s8 = .int .i64 (n : Int) ∧ s26 = .int .i64 (i : Int) ∧ h < 4294967296 ∧ n < 8 ∧
    Hid (acc ++ TextMath.bytesFrom n (h % 2 ^ n) (l.drop i) = TextMath.decBytes l) ∧ Hid (8 * acc.length + n = 6 * i) ∧ Holds w.heap.size acc wx ∧ Below w.heap.size w wx)
  case atStart => exact ⟨0, 0, 0, [], by omega, by go_num, by go_num, by go_num, by omega, by omega, Lib.hid HE.out, Lib.hid rfl, H0.out, HB0.out⟩
  case round =>
    obtain ⟨i, h, n, acc, hi, rfl, rfl, rfl, hh, hn, he, ha, hown, hb⟩ := hrel
    clear H0 HB0
    by_cases hlt : i < s.size
    · have t1 : decide ((i : Int) < (s.size : Int)) = true := decide_eq_true (by omega)
      have t1' : decide (i < s.size) = true := decide_eq_true hlt
      obtain ⟨z, hz⟩ : ∃ z, z = (s[i]'hlt).toNat := ⟨_, rfl⟩
      have hx : ((s[i]'hlt).toNat : Int) = (z : Int) := by rw [hz]
      have hzl : z < 256 := by rw [hz]; exact UInt8.toNat_lt _
      have hzi : l[i]? = some z := by rw [hz, HL.out]; exact nats_at s i hlt
      have h64 := HF1.out i z hzi
      have HNU := Lib.hid (fun w => numberOk z w hzl)
      obtain ⟨x, hxd⟩ : ∃ x, x = TextMath.number z := ⟨_, rfl⟩
      obtain ⟨r, hr⟩ : ∃ r, r = l.drop (i + 1) := ⟨_, rfl⟩
      have hd : l.drop i = z :: r := by rw [hr]; exact drop_step hzi
      obtain ⟨g, hg⟩ : ∃ g, g = h % 67108864 * 64 + x := ⟨_, rfl⟩
      rw [← hxd] at h64 HNU
      have hgl : g < 4294967296 := by omega
      have e3 : bits .or .u32 ((h : Int) * 64 % 4294967296) (x : Int) = (g : Int) := by rw [hg]; exact or_six h x h64
      obtain ⟨q, hq⟩ : ∃ q, q = n + 6 := ⟨_, rfl⟩
      have em : (n : Int) + 6 = (q : Int) := by omega
      have hql : q < 14 := by omega
      have h1 : acc ++ TextMath.bytesFrom q (g % 2 ^ q) r = TextMath.decBytes l := by
        rw [← he.out, hd, TextMath.bytes_take _ _ _ hn, hq, hg, held_six h x n h64 hn, hxd]
      have h2 : 8 * acc.length + q = 6 * (i + 1) := by have := ha.out; omega
      have hal : acc.length ≤ 100000 := by omega
      have HR := Lib.hid hr
      have HO := Lib.hid hown
      have HB := Lib.hid hb
      have HW := Lib.hid hb.size
      clear hz hzi hown hb he ha hr hd hg hq hxd
      by_cases h8 : 8 ≤ q
      · have t3 : decide (8 ≤ (q : Int)) = true := decide_eq_true (by omega)
        obtain ⟨p, hp⟩ : ∃ p, p = q - 8 := ⟨_, rfl⟩
        have ep : (q : Int) - 8 = (p : Int) := by omega
        have hpl : p < 8 := by omega
        obtain ⟨y, hy⟩ : ∃ y, y = g / 2 ^ p % 256 := ⟨_, rfl⟩
        have hyl : y < 256 := by omega
        have k4 : ((g : Int) / 2 ^ p) % 256 = (y : Int) := by rw [hy]; exact byte_of g p
        have N1 := Lib.hid (show (acc ++ [y]) ++ TextMath.bytesFrom p (g % 2 ^ p) (l.drop (i + 1)) = TextMath.decBytes l by
          rw [← h1, TextMath.bytes_put _ _ h8, hy, hp, List.append_assoc, low_byte g q h8 hql, Nat.mod_mod_of_dvd _ (Nat.pow_dvd_pow 2 (by omega : q - 8 ≤ q)), HR.out]
          rfl)
        have N2 := Lib.hid (show 8 * (acc ++ [y]).length + p = 6 * (i + 1) by rw [List.length_append]; simp only [List.length_cons, List.length_nil]; omega)
        clear h1 h2 hp hy h8
        go_wp2_with (first
          | (go_at_call 20; refine (HNU.out _).mono ?_; rintro e w2 ⟨rfl, rfl⟩)
          | (go_at_call 21; refine (put_byte w.heap.size y acc _ HO.out hyl hal HW.out).mono ?_; rintro e w3 ⟨rfl, h3, hb3⟩; have HO3 := Lib.hid h3; have HB3 := Lib.hid (HB.out.trans hb3); clear h3 hb3))
        go_roundg (s.size - (i + 1))
        case measure => omega
        case rel => exact ⟨i + 1, g, p, acc ++ [y], by omega, rfl, rfl, by go_num, hgl, hpl, N1, N2, HO3.out, HB3.out⟩
      · have t3 : decide (8 ≤ (q : Int)) = false := decide_eq_false (by omega)
        rw [HR.out] at h1
        have N1 := Lib.hid h1
        have N2 := Lib.hid h2
        have H8 := Lib.hid h8
        clear h1 h2 h8
        go_wp2_with (go_at_call 20; refine (HNU.out _).mono ?_; rintro e w2 ⟨rfl, rfl⟩)
        go_roundg (s.size - (i + 1))
        case measure => omega
        case rel => exact ⟨i + 1, g, q, acc, by omega, rfl, rfl, by go_num, hgl, by have := H8.out; omega, N1, N2, HO.out, HB.out⟩
    · obtain rfl : i = s.size := by omega
      have t1 : decide (s.size < s.size) = false := decide_eq_false (by omega)
      have HD := Lib.hid (show l.drop s.size = [] by rw [← HLL.out]; exact List.drop_length)
      have N1 := Lib.hid (show acc = TextMath.decBytes l by
        rw [← he.out, HD.out, TextMath.bytes_end _ hn, List.append_nil])
      have HO := Lib.hid hown
      have HB := Lib.hid hb
      have HW := Lib.hid hb.size
      clear hown hb he ha
      go_wp2_with (go_at_call 22; refine (told w.heap.size _ _ HO.out HW.out).mono ?_; rintro e w4 ⟨rfl, hb4⟩; have HB4 := Lib.hid (HB.out.trans hb4); clear hb4)
      go_ret2
      exact ⟨by rw [← N1.out]; rfl, HB4.out⟩

theorem decOk : DecOk := by
  intro s w hs
  cases hf : TextMath.fault (nats s) with
  | none =>
    refine (dec_good s w hs hf).mono ?_
    rintro e w' ⟨rfl, hb⟩
    refine ⟨?_, hb⟩
    unfold Decoded
    rw [hf]
  | some n =>
    refine (dec_bad s w hs n hf).mono ?_
    rintro e w' ⟨h, hb⟩
    refine ⟨?_, hb⟩
    unfold Decoded
    rw [hf]
    exact h
end Go.Proofs.YtfophdombipemaaDoor
