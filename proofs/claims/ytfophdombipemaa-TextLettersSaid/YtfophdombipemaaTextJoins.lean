/-
  The contract of chapter 4's law TextJoins: of any two texts it answers true; old memory is as it was. The conditions: the contracts of Enc, Dec, Octets, Token; texts of fewer than 2^63 bytes.
-/
import Derived.Test.YtfophdombipemaaTextAwake
namespace Go.Proofs.Ytfophdombipemaa
open Go.RowKit TextNat

theorem size_append2 (a b : ByteArray) : (a ++ b).size = a.size + b.size := by
  rw [← nats_len, nats_append, List.length_append, nats_len, nats_len]

set_option maxHeartbeats 4000000 in
theorem joins_true (s t : ByteArray) (w : World) (hE : EncOk) (hD : DecOk) (hO : OctetsOk) (hT : TokenOk) (hm : s.size ≤ 9223372036854775807) (hm2 : t.size ≤ 9223372036854775807) :
    Calls Try.prog 4 #[.string s, .string t] w fun e w' => e = .returned (.bool true) ∧ Below w.heap.size w w' := by
  have HA := Lib.hid (awake_true w hE hD hO hT)
  by_cases h : 5000 < s.size
  · have t1 : decide (5000 < s.size) = true := decide_eq_true h
    have t2 : decide ((5000 : Int) < (s.size : Int)) = true := decide_eq_true (by omega)
    go_enter Try.func4, Try.ntmps4
    go_wp2_with (go_at_call 5; refine HA.out.mono ?_; rintro e w2 ⟨rfl, hb2⟩)
    go_ret
    exact ⟨rfl, hb2⟩
  · have t1 : decide (5000 < s.size) = false := decide_eq_false h
    have t2 : decide ((5000 : Int) < (s.size : Int)) = false := decide_eq_false (by omega)
    by_cases h2 : 5000 < t.size
    · have t3 : decide (5000 < t.size) = true := decide_eq_true h2
      have t4 : decide ((5000 : Int) < (t.size : Int)) = true := decide_eq_true (by omega)
      go_enter Try.func4, Try.ntmps4
      go_wp2_with (go_at_call 5; refine HA.out.mono ?_; rintro e w2 ⟨rfl, hb2⟩)
      go_ret
      exact ⟨rfl, hb2⟩
    · have t3 : decide (5000 < t.size) = false := decide_eq_false h2
      have t4 : decide ((5000 : Int) < (t.size : Int)) = false := decide_eq_false (by omega)
      have hst := size_append2 s t
      obtain ⟨A, hA⟩ : ∃ A, A = (nats s).all TextMath.octet := ⟨_, rfl⟩
      obtain ⟨B, hB⟩ : ∃ B, B = (nats t).all TextMath.octet := ⟨_, rfl⟩
      have hAB : (nats (s ++ t)).all TextMath.octet = (A && B) := by rw [nats_append, List.all_append, hA, hB]
      obtain ⟨U, hU⟩ : ∃ U, s ++ t = U := ⟨_, rfl⟩
      rw [hU] at hst hAB
      have HO := Lib.hid (show ∀ (u : ByteArray) (b : Bool) (w : World), (u = s ∧ b = A ∨ u = t ∧ b = B ∨ u = U ∧ b = (A && B)) → Calls Try.prog 9 #[.string u] w fun e w' => e = .returned (.bool b) ∧ Below w.heap.size w w' by
        rintro u b w (⟨rfl, rfl⟩ | ⟨rfl, rfl⟩ | ⟨rfl, rfl⟩)
        · have h1 := hO u w (by omega)
          rw [← hA] at h1
          exact h1
        · have h1 := hO u w (by omega)
          rw [← hB] at h1
          exact h1
        · have h1 := hO u w (by omega)
          rw [hAB] at h1
          exact h1)
      obtain ⟨L, hL⟩ : ∃ L, L = txt (TextMath.enc (nats s)) := ⟨_, rfl⟩
      obtain ⟨M, hM⟩ : ∃ M, M = txt (TextMath.enc (nats t)) := ⟨_, rfl⟩
      obtain ⟨K, hK⟩ : ∃ K, K = txt (TextMath.enc (nats U)) := ⟨_, rfl⟩
      have HE := Lib.hid (show ∀ (u v : ByteArray) (w : World), (u = s ∧ v = L ∨ u = t ∧ v = M ∨ u = U ∧ v = K) → Calls Try.prog 6 #[.string u] w fun e w' => e = .returned (.string v) ∧ Below w.heap.size w w' by
        rintro u v w (⟨rfl, rfl⟩ | ⟨rfl, rfl⟩ | ⟨rfl, rfl⟩)
        · have h1 := hE u w (by omega)
          rw [← hL] at h1
          exact h1
        · have h1 := hE u w (by omega)
          rw [← hM] at h1
          exact h1
        · have h1 := hE u w (by omega)
          rw [← hK] at h1
          exact h1)
      have hLs : L.size ≤ 20000 := by rw [hL, txt_len, TextMath.enc_length, nats_len]; omega
      have hMs : M.size ≤ 20000 := by rw [hM, txt_len, TextMath.enc_length, nats_len]; omega
      have m2 : ¬ 9223372036854775807 < s.size + t.size := by omega
      by_cases h3 : s.size % 3 = 0
      · have hJ : L ++ M = K := by rw [hL, hM, hK, txt_append, ← hU, nats_append, TextMath.enc_join _ _ (by rw [nats_len]; exact h3)]
        have m1 : ¬ 9223372036854775807 < L.size + M.size := by omega
        have t5 : (s.size : Int).tmod 3 = 0 := by
          rw [Int.tmod_eq_emod_of_nonneg (by omega)]
          omega
        clear hE hD hO hT hA hB hAB hL hM hK hst hLs hMs h3
        have HB := Lib.hid (Below.refl w.heap.size w)
        go_enter Try.func4, Try.ntmps4
        go_wp2_with (first
          | (go_at_call 5; refine HA.out.mono ?_; rintro e w2 ⟨rfl, hb⟩; replace HB := Lib.hid (HB.out.trans (hb.mono HB.out.size)); clear hb)
          | (go_at_call 6; refine (HE.out _ _ _ (by first | exact .inl ⟨rfl, rfl⟩ | exact .inr (.inl ⟨rfl, rfl⟩) | exact .inr (.inr ⟨rfl, rfl⟩))).mono ?_; rintro e w2 ⟨rfl, hb⟩; replace HB := Lib.hid (HB.out.trans (hb.mono HB.out.size)); clear hb)
          | (go_at_call 9; refine (HO.out _ _ _ (by first | exact .inl ⟨rfl, rfl⟩ | exact .inr (.inl ⟨rfl, rfl⟩) | exact .inr (.inr ⟨rfl, rfl⟩))).mono ?_; rintro e w2 ⟨rfl, hb⟩; replace HB := Lib.hid (HB.out.trans (hb.mono HB.out.size)); clear hb))
        all_goals
          go_ret
          exact ⟨rfl, HB.out⟩
      · have t5 : ((s.size : Int).tmod 3 == 0) = false := by
          rw [beq_eq_false_iff_ne, Int.tmod_eq_emod_of_nonneg (by omega)]
          omega
        have t6 : ¬ (s.size : Int).tmod 3 = 0 := by simpa using t5
        clear hE hD hO hT hA hB hAB hL hM hK hst hLs hMs h3
        have HB := Lib.hid (Below.refl w.heap.size w)
        go_enter Try.func4, Try.ntmps4
        go_wp2_with (first
          | (go_at_call 5; refine HA.out.mono ?_; rintro e w2 ⟨rfl, hb⟩; replace HB := Lib.hid (HB.out.trans (hb.mono HB.out.size)); clear hb)
          | (go_at_call 6; refine (HE.out _ _ _ (by first | exact .inl ⟨rfl, rfl⟩ | exact .inr (.inl ⟨rfl, rfl⟩) | exact .inr (.inr ⟨rfl, rfl⟩))).mono ?_; rintro e w2 ⟨rfl, hb⟩; replace HB := Lib.hid (HB.out.trans (hb.mono HB.out.size)); clear hb)
          | (go_at_call 9; refine (HO.out _ _ _ (by first | exact .inl ⟨rfl, rfl⟩ | exact .inr (.inl ⟨rfl, rfl⟩) | exact .inr (.inr ⟨rfl, rfl⟩))).mono ?_; rintro e w2 ⟨rfl, hb⟩; replace HB := Lib.hid (HB.out.trans (hb.mono HB.out.size)); clear hb))
        all_goals
          go_ret
          exact ⟨rfl, HB.out⟩
end Go.Proofs.Ytfophdombipemaa
