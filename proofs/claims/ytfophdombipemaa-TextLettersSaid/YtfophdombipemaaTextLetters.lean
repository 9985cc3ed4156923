/-
  The contract of chapter 4's law TextLetters: of any text it answers true; old memory is as it was. The conditions: the contracts of Enc, Dec, Octets, Token; texts of fewer than 2^63 bytes.
-/
import Derived.Test.YtfophdombipemaaTextAwake
import Derived.Test.YtfophdombipemaaRefEnc
namespace Go.Proofs.Ytfophdombipemaa
open Go.RowKit TextNat

theorem nats_enc (s : ByteArray) : nats (txt (TextMath.enc (nats s))) = TextMath.enc (nats s) := nats_txt _ (TextMath.enc_lt _)

theorem letters_true (s : ByteArray) (w : World) (hE : EncOk) (hD : DecOk) (hO : OctetsOk) (hT : TokenOk) (hm : s.size ≤ 9223372036854775807) :
    Calls Try.prog 3 #[.string s] w fun e w' => e = .returned (.bool true) ∧ Below w.heap.size w w' := by
  have HA := Lib.hid (awake_true w hE hD hO hT)
  by_cases h : 5000 < s.size
  · have t1 : decide (5000 < s.size) = true := decide_eq_true h
    have t2 : decide ((5000 : Int) < (s.size : Int)) = true := decide_eq_true (by omega)
    go_enter Try.func3, Try.ntmps3
    go_wp2_with (go_at_call 5; refine HA.out.mono ?_; rintro e w2 ⟨rfl, hb2⟩)
    go_ret
    exact ⟨rfl, hb2⟩
  · have t1 : decide (5000 < s.size) = false := decide_eq_false h
    have t2 : decide ((5000 : Int) < (s.size : Int)) = false := decide_eq_false (by omega)
    obtain ⟨L, hL⟩ : ∃ L, L = txt (TextMath.enc (nats s)) := ⟨_, rfl⟩
    have hn : nats L = TextMath.enc (nats s) := by rw [hL]; exact nats_enc s
    have hs : L.size ≤ 20000 := by rw [hL, txt_len, TextMath.enc_length, nats_len]; omega
    obtain ⟨q1, q2⟩ := TextMath.dec_enc (nats s) (nats_lt s)
    have HE := Lib.hid (fun w => hE s w (by omega))
    have HR := Lib.hid (fun w => refEnc s w (by omega))
    have HD := Lib.hid (fun w => dec_none (s := L) hD hs (by rw [hn]; exact q1) w)
    have HO := Lib.hid (fun w => hO L w hs)
    rw [← hL] at HE HR
    rw [hn, q2, txt_nats] at HD
    rw [hn, TextMath.enc_octets] at HO
    clear hE hD hO hT hL hn hs q1 q2
    go_enter Try.func3, Try.ntmps3
    go_wp2_with (first
      | (go_at_call 5; refine HA.out.mono ?_; rintro e w2 ⟨rfl, hb2⟩)
      | (go_at_call 6; refine (HE.out _).mono ?_; rintro e w3 ⟨rfl, hb3⟩)
      | (go_at_call 7; refine (HD.out _).mono ?_; rintro e w4 ⟨rfl, hb4⟩)
      | (go_at_call 8; refine (HR.out _).mono ?_; rintro e w5 ⟨rfl, hb5⟩)
      | (go_at_call 9; refine (HO.out _).mono ?_; rintro e w6 ⟨rfl, hb6⟩))
    go_ret
    have k2 := hb2.size
    have k3 := Nat.le_trans k2 hb3.size
    have k4 := Nat.le_trans k3 hb4.size
    have k5 := Nat.le_trans k4 hb5.size
    exact ⟨rfl, hb2.trans ((hb3.mono k2).trans ((hb4.mono k3).trans ((hb5.mono k4).trans (hb6.mono k5))))⟩
end Go.Proofs.Ytfophdombipemaa
