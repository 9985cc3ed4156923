/-
  The contract of the program's wrong of chapter 4: where the first letter is that can't be, if there is one. The condition: a text of at most 20,000 bytes.
-/
import Derived.Test.YtfophdombipemaaDoorTextNumber
import Derived.Test.YtfophdombipemaaDoorTextFault
import Derived.Test.YtfophdombipemaaDoorTextEnc
namespace Go.Proofs.YtfophdombipemaaDoor
open Go.RowKit TextNat

/-- What wrong answers. -/
def wrongValue (l : List Nat) : Value :=
  match TextMath.fault l with
  | some n => .tuple #[.int .i64 (n : Int), .bool true]
  | none => .tuple #[.int .i64 0, .bool false]

theorem and_15 (x : Nat) (hx : x < 64) : bits .and .u32 (x : Int) 15 = ((x % 16 : Nat) : Int) := by
  have h2 := u32_and x 15 (by omega) (by decide)
  rw [show (15 : Nat) = 2 ^ 4 - 1 from rfl, Nat.and_two_pow_sub_one_eq_mod] at h2
  exact h2
theorem and_3 (x : Nat) (hx : x < 64) : bits .and .u32 (x : Int) 3 = ((x % 4 : Nat) : Int) := by
  have h2 := u32_and x 3 (by omega) (by decide)
  rw [show (3 : Nat) = 2 ^ 2 - 1 from rfl, Nat.and_two_pow_sub_one_eq_mod] at h2
  exact h2

set_option maxRecDepth 100000 in
set_option maxHeartbeats 4000000 in
theorem wrongOk (s : ByteArray) (w : World) (hs : s.size ≤ 20000) : Calls Tryd.prog 17 #[.string s] w fun e w' => e = .returned (wrongValue (nats s)) ∧ w' = w := by
  obtain ⟨l, hl⟩ : ∃ l, l = nats s := ⟨_, rfl⟩
  have hll : l.length = s.size := by rw [hl]; exact nats_len s
  have HL := Lib.hid hl
  have HLL := Lib.hid hll
  rw [← hl]
  clear hl hll
  go_enter Tryd.func17, Tryd.ntmps17
  go_wp2
  go_loopg [8] s.size (fun gh s8 wx => ∃ i : Nat, i + gh = s.size ∧ s8 = .int .i64 (i : Int) ∧ Hid (∀ j y : Nat, j < i → l[j]? = some y → TextMath.number y < 64) ∧ wx = w)
  case atStart => exact ⟨0, by omega, by go_num, Lib.hid (fun j y h => absurd h (by omega)), rfl⟩
  case round =>
    obtain ⟨i, hi, rfl, hn, rfl⟩ := hrel
    by_cases hlt : i < s.size
    · have t1 : decide ((i : Int) < (s.size : Int)) = true := decide_eq_true (by omega)
      have t1' : decide (i < s.size) = true := decide_eq_true hlt
      obtain ⟨z, hz⟩ : ∃ z, z = (s[i]'hlt).toNat := ⟨_, rfl⟩
      have hx : ((s[i]'hlt).toNat : Int) = (z : Int) := by rw [hz]
      have hzl : z < 256 := by rw [hz]; exact UInt8.toNat_lt _
      have hzi : l[i]? = some z := by rw [hz, HL.out]; exact nats_at s i hlt
      have HNU := Lib.hid (fun w => numberOk z w hzl)
      have hle := TextMath.number_le z
      by_cases hb : TextMath.number z = 64
      · have HF := Lib.hid (TextMath.fault_letter hzi hb (fun j y hj h => hn.out j y hj h))
        rw [hb] at HNU
        clear hn hz hzi hb hle
        go_wp2_with (go_at_call 20; refine (HNU.out _).mono ?_; rintro e w2 ⟨rfl, rfl⟩)
        go_ret2
        exact ⟨by unfold wrongValue; rw [HF.out]; rfl, rfl⟩
      · have HN := Lib.hid (show ∀ j y : Nat, j < i + 1 → l[j]? = some y → TextMath.number y < 64 from fun j y hj h => by
          by_cases e : j = i
          · subst e
            rw [hzi] at h
            obtain rfl := Option.some.inj h
            omega
          · exact hn.out j y (by omega) h)
        obtain ⟨x, hxd⟩ : ∃ x, x = TextMath.number z := ⟨_, rfl⟩
        rw [← hxd] at HNU hle hb
        have t2 : decide (63 < (x : Int)) = false := decide_eq_false (by omega)
        clear hn hz hzi hb hxd
        go_wp2_with (go_at_call 20; refine (HNU.out _).mono ?_; rintro e w2 ⟨rfl, rfl⟩)
        go_roundg (s.size - (i + 1))
        case measure => omega
        case rel => exact ⟨i + 1, by omega, by go_num, HN, rfl⟩
    · obtain rfl : i = s.size := by omega
      have t1 : decide (s.size < s.size) = false := decide_eq_false (by omega)
      have hall : ∀ j y : Nat, l[j]? = some y → TextMath.number y < 64 := fun j y h => hn.out j y (by have := (List.getElem?_eq_some_iff.1 h).1; rw [HLL.out] at this; exact this) h
      clear hn
      have hm : s.size % 4 = 0 ∨ s.size % 4 = 1 ∨ s.size % 4 = 2 ∨ s.size % 4 = 3 := by omega
      rcases hm with hm | hm | hm | hm
      · have m4 : (s.size : Int) % 4 = 0 := by omega
        have HF := Lib.hid (TextMath.fault_zero hall (by rw [HLL.out]; exact hm))
        clear hall hm
        go_wp2_with fail
        go_ret2
        exact ⟨by unfold wrongValue; rw [HF.out]; rfl, rfl⟩
      · have m4 : (s.size : Int) % 4 = 1 := by omega
        have HF := Lib.hid (TextMath.fault_count hall (by rw [HLL.out]; exact hm))
        rw [HLL.out] at HF
        clear hall hm
        go_wp2_with fail
        go_ret2
        exact ⟨by unfold wrongValue; rw [HF.out]; rfl, rfl⟩
      · have m4 : (s.size : Int) % 4 = 2 := by omega
        obtain ⟨k, hk⟩ : ∃ k, k = s.size - 1 := ⟨_, rfl⟩
        have hkl : k < s.size := by omega
        have ek : (s.size : Int) - 1 = (k : Int) := by omega
        obtain ⟨y, hy⟩ : ∃ y, y = (s[k]'hkl).toNat := ⟨_, rfl⟩
        have hyx : ((s[k]'hkl).toNat : Int) = (y : Int) := by rw [hy]
        have hyl : y < 256 := by rw [hy]; exact UInt8.toNat_lt _
        have hyi : l[l.length - 1]? = some y := by rw [HLL.out, ← hk, hy, HL.out]; exact nats_at s k hkl
        have hF := TextMath.fault_two hall (by rw [HLL.out]; exact hm) hyi
        rw [HLL.out, ← hk] at hF
        have HNU := Lib.hid (fun w => numberOk y w hyl)
        have hx64 := hall _ _ hyi
        obtain ⟨x, hx⟩ : ∃ x, x = TextMath.number y := ⟨_, rfl⟩
        rw [← hx] at HNU hF hx64
        obtain ⟨u, hu⟩ : ∃ u, u = x % 16 := ⟨_, rfl⟩
        have k5 : bits .and .u32 (x : Int) 15 = (u : Int) := by rw [hu]; exact and_15 x hx64
        rw [← hu] at hF
        by_cases hu0 : u = 0
        · rw [if_pos hu0] at hF
          have HF := Lib.hid hF
          have k6 : ((u : Int) != 0) = false := by simp [hu0]
          clear hall hm hk hy hyi hF hx hu hu0
          go_wp2_with (go_at_call 20; refine (HNU.out _).mono ?_; rintro e w2 ⟨rfl, rfl⟩)
          go_ret2
          exact ⟨by unfold wrongValue; rw [HF.out]; rfl, rfl⟩
        · rw [if_neg hu0] at hF
          have HF := Lib.hid hF
          have k6 : ((u : Int) != 0) = true := by simp [hu0]
          clear hall hm hk hy hyi hF hx hu hu0
          go_wp2_with (go_at_call 20; refine (HNU.out _).mono ?_; rintro e w2 ⟨rfl, rfl⟩)
          go_ret2
          exact ⟨by unfold wrongValue; rw [HF.out]; rfl, rfl⟩
      · have m4 : (s.size : Int) % 4 = 3 := by omega
        obtain ⟨k, hk⟩ : ∃ k, k = s.size - 1 := ⟨_, rfl⟩
        have hkl : k < s.size := by omega
        have ek : (s.size : Int) - 1 = (k : Int) := by omega
        obtain ⟨y, hy⟩ : ∃ y, y = (s[k]'hkl).toNat := ⟨_, rfl⟩
        have hyx : ((s[k]'hkl).toNat : Int) = (y : Int) := by rw [hy]
        have hyl : y < 256 := by rw [hy]; exact UInt8.toNat_lt _
        have hyi : l[l.length - 1]? = some y := by rw [HLL.out, ← hk, hy, HL.out]; exact nats_at s k hkl
        have hF := TextMath.fault_three hall (by rw [HLL.out]; exact hm) hyi
        rw [HLL.out, ← hk] at hF
        have HNU := Lib.hid (fun w => numberOk y w hyl)
        have hx64 := hall _ _ hyi
        obtain ⟨x, hx⟩ : ∃ x, x = TextMath.number y := ⟨_, rfl⟩
        rw [← hx] at HNU hF hx64
        obtain ⟨u, hu⟩ : ∃ u, u = x % 4 := ⟨_, rfl⟩
        have k5 : bits .and .u32 (x : Int) 3 = (u : Int) := by rw [hu]; exact and_3 x hx64
        rw [← hu] at hF
        by_cases hu0 : u = 0
        · rw [if_pos hu0] at hF
          have HF := Lib.hid hF
          have k6 : ((u : Int) != 0) = false := by simp [hu0]
          clear hall hm hk hy hyi hF hx hu hu0
          go_wp2_with (go_at_call 20; refine (HNU.out _).mono ?_; rintro e w2 ⟨rfl, rfl⟩)
          go_ret2
          exact ⟨by unfold wrongValue; rw [HF.out]; rfl, rfl⟩
        · rw [if_neg hu0] at hF
          have HF := Lib.hid hF
          have k6 : ((u : Int) != 0) = true := by simp [hu0]
          clear hall hm hk hy hyi hF hx hu hu0
          go_wp2_with (go_at_call 20; refine (HNU.out _).mono ?_; rintro e w2 ⟨rfl, rfl⟩)
          go_ret2
          exact ⟨by unfold wrongValue; rw [HF.out]; rfl, rfl⟩
end Go.Proofs.YtfophdombipemaaDoor
