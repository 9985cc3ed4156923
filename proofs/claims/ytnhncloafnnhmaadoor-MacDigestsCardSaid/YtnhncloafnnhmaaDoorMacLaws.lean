/-
  The contracts of chapter 3's laws MacDigests, MacTags, MacDerives: of any texts, any number they answer true; old memory is as it was. The conditions: texts of fewer than 2^63 bytes; the 64 constants stand where the program's text lays them.
-/
import Derived.Test.YtnhncloafnnhmaaDoorMacAwake
import Derived.Test.YtnhncloafnnhmaaDoorRefTag
import Derived.Test.YtnhncloafnnhmaaDoorMacDerive
import Derived.Outline
namespace Go.Proofs.YtnhncloafnnhmaaDoor
open Go.RowKit ShaMath TextNat

theorem digests_true (s : ByteArray) (w : World) (hp : Parts w) (hm : s.size ≤ 9223372036854775807) :
    Calls Tryd.prog 3 #[.string s] w fun e w' => e = .returned (.bool true) ∧ Below w.heap.size w w' := by
  have HA := Lib.hid (awake_true w hp)
  have HP := Lib.hid hp
  clear hp
  by_cases h : 2000 < s.size
  · have t1 : decide (2000 < s.size) = true := decide_eq_true h
    have t2 : decide ((2000 : Int) < (s.size : Int)) = true := decide_eq_true (by omega)
    go_enter Tryd.func3, Tryd.ntmps3
    go_wp2_with (go_at_call 7; refine HA.out.mono ?_; rintro e w2 ⟨rfl, hb2⟩)
    go_ret
    exact ⟨rfl, hb2⟩
  · have t1 : decide (2000 < s.size) = false := decide_eq_false h
    have t2 : decide ((2000 : Int) < (s.size : Int)) = false := decide_eq_false (by omega)
    have HM := Lib.hid (fun w2 (hp2 : Parts w2) => macDigest s w2 (by omega) hp2)
    have HR := Lib.hid (fun w2 => refDigest s w2 (by omega))
    go_enter Tryd.func3, Tryd.ntmps3
    go_wp2_with (first
      | (go_at_call 7; refine HA.out.mono ?_; rintro e w2 ⟨rfl, hb2⟩)
      | (go_at_call 8; refine (HM.out _ (HP.out.grown hb2)).mono ?_; rintro e w3 ⟨rfl, hb3⟩)
      | (go_at_call 9; refine (HR.out _).mono ?_; rintro e w4 ⟨rfl, hb4⟩))
    go_ret
    exact ⟨rfl, hb2.trans ((hb3.mono hb2.size).trans (hb4.mono (Nat.le_trans hb2.size hb3.size)))⟩

/-- Where one of the texts is too long, whatever that one is. -/
theorem tags_true (key s : ByteArray) (w : World) (hp : Parts w) (hk : key.size ≤ 9223372036854775807) (hm : s.size ≤ 9223372036854775807) :
    Calls Tryd.prog 4 #[.string key, .string s] w fun e w' => e = .returned (.bool true) ∧ Below w.heap.size w w' := by
  have HA := Lib.hid (awake_true w hp)
  have HP := Lib.hid hp
  clear hp
  by_cases h1 : 2000 < key.size
  · have t1 : decide (2000 < key.size) = true := decide_eq_true h1
    have t2 : decide ((2000 : Int) < (key.size : Int)) = true := decide_eq_true (by omega)
    go_enter Tryd.func4, Tryd.ntmps4
    go_wp2_with (go_at_call 7; refine HA.out.mono ?_; rintro e w2 ⟨rfl, hb2⟩)
    go_ret
    exact ⟨rfl, hb2⟩
  · have t1 : decide (2000 < key.size) = false := decide_eq_false h1
    have t2 : decide ((2000 : Int) < (key.size : Int)) = false := decide_eq_false (by omega)
    by_cases h : 2000 < s.size
    · have t3 : decide (2000 < s.size) = true := decide_eq_true h
      have t4 : decide ((2000 : Int) < (s.size : Int)) = true := decide_eq_true (by omega)
      go_enter Tryd.func4, Tryd.ntmps4
      go_wp2_with (go_at_call 7; refine HA.out.mono ?_; rintro e w2 ⟨rfl, hb2⟩)
      go_ret
      exact ⟨rfl, hb2⟩
    · have t3 : decide (2000 < s.size) = false := decide_eq_false h
      have t4 : decide ((2000 : Int) < (s.size : Int)) = false := decide_eq_false (by omega)
      have HM := Lib.hid (fun w2 (hp2 : Parts w2) => macTag key s w2 (by omega) (by omega) hp2)
      have HR := Lib.hid (fun w2 => refTag key s w2 (by omega) (by omega))
      go_enter Tryd.func4, Tryd.ntmps4
      go_wp2_with (first
        | (go_at_call 7; refine HA.out.mono ?_; rintro e w2 ⟨rfl, hb2⟩)
        | (go_at_call 10; refine (HM.out _ (HP.out.grown hb2)).mono ?_; rintro e w3 ⟨rfl, hb3⟩)
        | (go_at_call 11; refine (HR.out _).mono ?_; rintro e w4 ⟨rfl, hb4⟩))
      go_ret
      exact ⟨rfl, hb2.trans ((hb3.mono hb2.size).trans (hb4.mono (Nat.le_trans hb2.size hb3.size)))⟩

theorem derives_true (key : ByteArray) (n : Int) (w : World) (hp : Parts w) (hk : key.size ≤ 9223372036854775807) :
    Calls Tryd.prog 5 #[.string key, .int .i64 n] w fun e w' => e = .returned (.bool true) ∧ Below w.heap.size w w' := by
  have HA := Lib.hid (awake_true w hp)
  have HP := Lib.hid hp
  clear hp
  by_cases h1 : 2000 < key.size
  · have t1 : decide (2000 < key.size) = true := decide_eq_true h1
    have t2 : decide ((2000 : Int) < (key.size : Int)) = true := decide_eq_true (by omega)
    go_enter Tryd.func5, Tryd.ntmps5
    go_wp2_with (go_at_call 7; refine HA.out.mono ?_; rintro e w2 ⟨rfl, hb2⟩)
    go_ret
    exact ⟨rfl, hb2⟩
  · have t1 : decide (2000 < key.size) = false := decide_eq_false h1
    have t2 : decide ((2000 : Int) < (key.size : Int)) = false := decide_eq_false (by omega)
    obtain ⟨D, hD⟩ : ∃ D, D = txt (derive (nats key) (n % 18446744073709551616).toNat) := ⟨_, rfl⟩
    have hDs : D.size = 32 := by
      rw [hD, txt_len]
      unfold derive
      exact tag_len _ _
    have HM := Lib.hid (fun w2 (hp2 : Parts w2) => macDerive key n w2 (by omega) hp2)
    have HR := Lib.hid (fun w2 => refDerive key n w2 (by omega))
    rw [← hD] at HM HR
    clear hD
    go_enter Tryd.func5, Tryd.ntmps5
    go_wp2_with (first
      | (go_at_call 7; refine HA.out.mono ?_; rintro e w2 ⟨rfl, hb2⟩)
      | (go_at_call 12; refine (HM.out _ (HP.out.grown hb2)).mono ?_; rintro e w3 ⟨rfl, hb3⟩)
      | (go_at_call 13; refine (HR.out _).mono ?_; rintro e w4 ⟨rfl, hb4⟩))
    go_ret
    exact ⟨rfl, hb2.trans ((hb3.mono hb2.size).trans (hb4.mono (Nat.le_trans hb2.size hb3.size)))⟩
end Go.Proofs.YtnhncloafnnhmaaDoor
