/-
  The contract of the document's own number of chapter 4. No conditions but those typed.
-/
import Derived.Test.YtfophdombipemaaDoorRefLetter
namespace Go.Proofs.YtfophdombipemaaDoor
open Go.RowKit TextNat

/-- A letter's number, -1 for what is none, as the machine has it. -/
def numI (c : Nat) : Int := if TextMath.number c < 64 then (TextMath.number c : Int) else -1

set_option maxHeartbeats 2000000 in
theorem refNumber (c : Nat) (w : World) : Calls Tryd.prog 23 #[.int .u8 (c : Int)] w fun e w' => e = .returned (.int .i64 (numI c)) ∧ w' = w := by
  have HL := Lib.hid (fun n w h => refLetter n w h)
  go_enter Tryd.func23, Tryd.ntmps23
  go_wp2
  go_loopg [3] 64 (fun gh s3 wx => ∃ i : Nat, i + gh = 64 ∧ s3 = .int .i64 (i : Int) ∧ Hid (∀ j, j < i → TextMath.letter j ≠ c) ∧ wx = w)
  case atStart => exact ⟨0, rfl, by go_num, Lib.hid (fun j hj => absurd hj (by omega)), rfl⟩
  case round =>
    obtain ⟨i, hi, rfl, hn, rfl⟩ := hrel
    by_cases h64 : i < 64
    · have t1 : decide ((i : Int) < 64) = true := decide_eq_true (by omega)
      have t1' : decide (i < 64) = true := decide_eq_true h64
      by_cases hc2 : TextMath.letter i = c
      · have HI := Lib.hid (show numI c = (i : Int) by unfold numI; rw [TextMath.number_of h64 hc2, if_pos h64])
        have HR := Lib.hid (HL.out i wr h64)
        rw [hc2] at HR
        clear hn hc2
        go_wp2_with (go_at_call 38; refine HR.out.mono ?_; rintro e w2 ⟨rfl, rfl⟩)
        go_ret
        exact ⟨by rw [HI.out]; rfl, rfl⟩
      · obtain ⟨z, hz⟩ : ∃ z, z = TextMath.letter i := ⟨_, rfl⟩
        have HR := Lib.hid (HL.out i wr h64)
        rw [← hz] at HR hc2
        have t2 : ((z : Int) == (c : Int)) = false := by
          simp only [beq_eq_false_iff_ne]
          omega
        have t3 : (z == c) = false := by simpa using hc2
        have HN := Lib.hid (show ∀ j, j < i + 1 → TextMath.letter j ≠ c from fun j hj => by
          by_cases hji : j = i
          · rw [hji, ← hz]; exact hc2
          · exact hn.out j (by omega))
        clear hn hz hc2
        go_wp2_with (go_at_call 38; refine HR.out.mono ?_; rintro e w2 ⟨rfl, rfl⟩)
        go_roundg (64 - (i + 1))
        case measure => omega
        case rel => exact ⟨i + 1, by omega, by go_num, HN, rfl⟩
    · obtain rfl : i = 64 := by omega
      have HI := Lib.hid (show numI c = -1 by unfold numI; rw [TextMath.number_none hn.out, if_neg (by decide)])
      clear hn
      go_wp2
      go_ret
      exact ⟨by rw [HI.out]; rfl, rfl⟩
end Go.Proofs.YtfophdombipemaaDoor
