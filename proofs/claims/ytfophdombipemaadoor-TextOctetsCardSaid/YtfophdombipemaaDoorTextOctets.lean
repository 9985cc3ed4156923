/-
  The contract of chapter 4's law TextOctets: of any text it answers true; old memory is as it was. The conditions: the contracts of Enc, Dec, Octets, Token, Trim; unicode/utf8's two tables as Go's text lays them; texts of fewer than 2^63 bytes.
-/
import Derived.Test.YtfophdombipemaaDoorTextAwake
import Derived.Test.YtfophdombipemaaDoorRefOctets
import Derived.Test.YtfophdombipemaaDoorTrimFunc
namespace Go.Proofs.YtfophdombipemaaDoor
open Go.RowKit TextNat

/-- unicode/utf8's tables, as they are laid. -/
def Tabs (w : World) : Prop := Lib.Utf8Tabs 2 3 w
theorem block_lt {w : World} {b o : Nat} {v : Value} (h : w.cell? ⟨b, o, none⟩ = some v) : b < w.heap.size := by
  rcases Nat.lt_or_ge b w.heap.size with h1 | h1
  · exact h1
  · simp [World.cell?, Array.getElem?_eq_none h1] at h
theorem Tabs.below {w w' : World} (h : Tabs w) (hb : Below w.heap.size w w') : Tabs w' :=
  ⟨fun c hc => (hb.cell (p := ⟨2, c, none⟩) (block_lt (h.1 c hc))).trans (h.1 c hc),
    fun i hi => ⟨(hb.cell (p := ⟨3, 2 * i, none⟩) (block_lt (h.2 i hi).1)).trans (h.2 i hi).1, (hb.cell (p := ⟨3, 2 * i + 1, none⟩) (block_lt (h.2 i hi).2)).trans (h.2 i hi).2⟩⟩
def TrimOk : Prop := ∀ (s : ByteArray) (w : World), s.size ≤ 20000 → Tabs w → Calls Tryd.prog 11 #[.string s] w fun e w' => e = .returned (.string (txt (TextMath.trim (nats s)))) ∧ Below w.heap.size w w'

set_option maxHeartbeats 4000000 in
theorem octets_true (s : ByteArray) (w : World) (hE : EncOk) (hD : DecOk) (hO : OctetsOk) (hT : TokenOk) (hR : TrimOk) (htab : Tabs w) (hm : s.size ≤ 9223372036854775807) :
    Calls Tryd.prog 4 #[.string s] w fun e w' => e = .returned (.bool true) ∧ Below w.heap.size w w' := by
  have HA := Lib.hid (awake_true w hE hD hO hT)
  by_cases h : 5000 < s.size
  · have t1 : decide (5000 < s.size) = true := decide_eq_true h
    have t2 : decide ((5000 : Int) < (s.size : Int)) = true := decide_eq_true (by omega)
    go_enter Tryd.func4, Tryd.ntmps4
    go_wp2_with (go_at_call 5; refine HA.out.mono ?_; rintro e w2 ⟨rfl, hb2⟩)
    go_ret
    exact ⟨rfl, hb2⟩
  · have t1 : decide (5000 < s.size) = false := decide_eq_false h
    have t2 : decide ((5000 : Int) < (s.size : Int)) = false := decide_eq_false (by omega)
    obtain ⟨L, hL⟩ : ∃ L, L = txt (TextMath.trim (nats s)) := ⟨_, rfl⟩
    obtain ⟨A, hA⟩ : ∃ A, A = (nats s).all TextMath.octet := ⟨_, rfl⟩
    obtain ⟨B, hB⟩ : ∃ B, B = TextMath.token (nats s) := ⟨_, rfl⟩
    have hn : nats L = TextMath.trim (nats s) := by rw [hL]; exact nats_txt _ (trim_lt _ (nats_lt s))
    have hs : L.size ≤ 20000 := by
      have := trim_len (nats s)
      rw [nats_len] at this
      rw [hL, txt_len]
      omega
    have HR := Lib.hid (show ∀ (u : ByteArray) (w2 : World), (u = s ∨ u = L) → Below w.heap.size w w2 → Calls Tryd.prog 11 #[.string u] w2 fun e w' => e = .returned (.string L) ∧ Below w2.heap.size w2 w' by
      rintro u w2 (rfl | rfl) hb
      · have h1 := hR u w2 (by omega) (htab.below hb)
        rw [← hL] at h1
        exact h1
      · have h1 := hR u w2 hs (htab.below hb)
        rw [hn, trim_trim, ← hL] at h1
        exact h1)
    have HO := Lib.hid (fun w => hO s w (by omega))
    have HT := Lib.hid (fun w => hT s w (by omega))
    have GO := Lib.hid (fun w => refOctets s w (by omega))
    have GT := Lib.hid (fun w => refToken s w (by omega))
    have GR := Lib.hid (fun w => refTrim s w (by omega))
    rw [← hL] at GR
    rw [← hA] at HO GO
    rw [← hB] at HT GT
    clear hE hD hO hT hR hL hn hs hA hB htab
    have HB := Lib.hid (Below.refl w.heap.size w)
    go_enter Tryd.func4, Tryd.ntmps4
    go_wp2_with (first
      | (go_at_call 5; refine HA.out.mono ?_; rintro e w2 ⟨rfl, hb⟩; replace HB := Lib.hid (HB.out.trans (hb.mono HB.out.size)); clear hb)
      | (go_at_call 11; refine (HR.out _ _ (by first | exact .inl rfl | exact .inr rfl) HB.out).mono ?_; rintro e w2 ⟨rfl, hb⟩; replace HB := Lib.hid (HB.out.trans (hb.mono HB.out.size)); clear hb)
      | (go_at_call 12; refine (HO.out _).mono ?_; rintro e w2 ⟨rfl, hb⟩; replace HB := Lib.hid (HB.out.trans (hb.mono HB.out.size)); clear hb)
      | (go_at_call 14; refine (HT.out _).mono ?_; rintro e w2 ⟨rfl, hb⟩; replace HB := Lib.hid (HB.out.trans (hb.mono HB.out.size)); clear hb)
      | (go_at_call 13; refine (GO.out _).mono ?_; rintro e w2 ⟨rfl, rfl⟩)
      | (go_at_call 15; refine (GT.out _).mono ?_; rintro e w2 ⟨rfl, rfl⟩)
      | (go_at_call 16; refine (GR.out _).mono ?_; rintro e w2 ⟨rfl, rfl⟩))
    go_ret
    exact ⟨rfl, HB.out⟩
end Go.Proofs.YtfophdombipemaaDoor
