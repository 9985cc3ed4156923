/-
  The contract of chapter 4's law TextBytes: of any text it answers true; old memory is as it was. The conditions: the contracts of Enc, Dec, Octets, Token; the variable errors.errorType reads as the type error's own handle; a text of fewer than 2^63 bytes.
-/
import Derived.Test.YtfophdombipemaaDoorTextAwake
import Derived.Test.YtfophdombipemaaDoorRefDec
import Derived.Test.YtfophdombipemaaDoorPlace
import Derived.Test.YtfophdombipemaaDoorIsCode
namespace Go.Proofs.YtfophdombipemaaDoor
open Go.RowKit TextNat

set_option maxHeartbeats 4000000 in
theorem bytes_true (s : ByteArray) (w : World) (hE : EncOk) (hD : DecOk) (hO : OctetsOk) (hT : TokenOk) (hg : Handle w) (hm : s.size ≤ 9223372036854775807) :
    Calls Tryd.prog 3 #[.string s] w fun e w' => e = .returned (.bool true) ∧ Below w.heap.size w w' := by
  have HA := Lib.hid (awake_true w hE hD hO hT)
  have HG := Lib.hid hg
  have HB := Lib.hid (Below.refl w.heap.size w)
  clear hg
  by_cases h : 5000 < s.size
  · have t1 : decide (5000 < s.size) = true := decide_eq_true h
    have t2 : decide ((5000 : Int) < (s.size : Int)) = true := decide_eq_true (by omega)
    go_enter Tryd.func3, Tryd.ntmps3
    go_wp2_with (go_at_call 5; refine HA.out.mono ?_; rintro e w2 ⟨rfl, hb2⟩)
    go_ret
    exact ⟨rfl, hb2⟩
  · have t1 : decide (5000 < s.size) = false := decide_eq_false h
    have t2 : decide ((5000 : Int) < (s.size : Int)) = false := decide_eq_false (by omega)
    have HR := Lib.hid (fun w => refDec s w (by omega))
    unfold decValue at HR
    cases hf : TextMath.fault (nats s) with
    | none =>
      obtain ⟨L, hL⟩ : ∃ L, L = txt (TextMath.decBytes (nats s)) := ⟨_, rfl⟩
      have hn : nats L = TextMath.decBytes (nats s) := by rw [hL]; exact nats_txt _ (TextMath.decBytes_lt _)
      have hs : L.size ≤ 20000 := by rw [hL, txt_len, TextMath.decBytes_len, nats_len]; omega
      have HD := Lib.hid (fun w => dec_none (s := s) hD (by omega) hf w)
      have HE := Lib.hid (fun w => hE L w hs)
      rw [hn, TextMath.enc_dec _ hf, txt_nats] at HE
      rw [← hL] at HD
      rw [hf] at HR
      simp only [← hL] at HR
      clear hE hD hO hT hL hn hs hf
      go_enter Tryd.func3, Tryd.ntmps3
      go_wp2_with (first
        | (go_at_call 5; refine HA.out.mono ?_; rintro e w2 ⟨rfl, hb⟩; replace HB := Lib.hid (HB.out.trans (hb.mono HB.out.size)); clear hb)
        | (go_at_call 6; refine (HD.out _).mono ?_; rintro e w2 ⟨rfl, hb⟩; replace HB := Lib.hid (HB.out.trans (hb.mono HB.out.size)); clear hb)
        | (go_at_call 8; refine (HE.out _).mono ?_; rintro e w2 ⟨rfl, hb⟩; replace HB := Lib.hid (HB.out.trans (hb.mono HB.out.size)); clear hb)
        | (go_at_call 7; refine (HR.out _).mono ?_; rintro e w2 ⟨rfl, hb⟩; replace HB := Lib.hid (HB.out.trans (hb.mono HB.out.size)); clear hb))
      go_ret
      exact ⟨rfl, HB.out⟩
    | some n =>
      have HD := Lib.hid (fun w => hD s w (by omega))
      unfold Decoded at HD
      rw [hf] at HD HR
      clear hE hD hO hT hf
      have t3 : decide ((n : Int) < 0) = false := decide_eq_false (by omega)
      go_enter Tryd.func3, Tryd.ntmps3
      go_wp2_with (first
        | (go_at_call 5; refine HA.out.mono ?_; rintro e w2 ⟨rfl, hb⟩; replace HB := Lib.hid (HB.out.trans (hb.mono HB.out.size)); clear hb)
        | (go_at_call 6; refine (HD.out _).mono ?_; rintro e w2 ⟨⟨v, rfl, hc⟩, hb⟩; replace HB := Lib.hid (HB.out.trans (hb.mono HB.out.size)); clear hb; obtain ⟨b, rfl⟩ := hc.place; have HC := Lib.hid hc; clear hc)
        | (go_at_call 7; refine (HR.out _).mono ?_; rintro e w2 ⟨rfl, hb⟩; replace HB := Lib.hid (HB.out.trans (hb.mono HB.out.size)); replace HC := Lib.hid (HC.out.mono hb hb.size); clear hb)
        | (go_at_call 9; refine (place_some _ _ _ _ (HG.out.below HB.out HG.out.lt) HC.out.cells.1 HC.out.cells.2).mono ?_; rintro e w2 ⟨rfl, hb⟩; replace HB := Lib.hid (HB.out.trans (hb.mono HB.out.size)); replace HC := Lib.hid (HC.out.mono hb hb.size); clear hb)
        | (go_at_call 10; refine (Is_chain _ _ 2 2 _ _ HC.out).mono ?_; rintro e w2 ⟨rfl, rfl⟩))
      go_ret
      exact ⟨rfl, HB.out⟩
end Go.Proofs.YtfophdombipemaaDoor
