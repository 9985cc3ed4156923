/-
  The contracts of the document's own octet, Octets, Token, Trim of chapter 4. The condition: texts of at most 20,000 bytes.
-/
import Derived.Test.YtlgofepmdjlpgaaDoorProg
import Derived.Test.YtlgofepmdjlpgaaDoorPart07
import Derived.WalkKit
import Derived.Handy
import Derived.Outline
import Derived.Lib.Hide
import Derived.Deep.LoopGhost
import Derived.Deep.RegionWith
import Derived.Lib.Strings
namespace Go.Proofs.YtlgofepmdjlpgaaDoor
open Go.RowKit TextNat

/-- A byte's bounds. -/
theorem refOctet (c : Nat) (w : World) (hc : c < 256) : Calls Tryd.prog 36 #[.int .u8 (c : Int)] w fun e w' => e = .returned (.bool (TextMath.octet c)) ∧ w' = w := by
  go_enter Tryd.func36, Tryd.ntmps36
  go_wp2
  all_goals
    go_ret
    refine ⟨?_, rfl⟩
    show Ending.returned (Value.bool _) = Ending.returned (Value.bool _)
    congr 2
    unfold TextMath.octet
    rw [Bool.eq_iff_iff]
    simp
    omega


set_option maxHeartbeats 2000000 in
theorem refOctets (s : ByteArray) (w : World) (hs : s.size ≤ 20000) : Calls Tryd.prog 18 #[.string s] w fun e w' => e = .returned (.bool ((nats s).all TextMath.octet)) ∧ w' = w := by
  go_enter Tryd.func18, Tryd.ntmps18
  go_wp2
  go_loopg [3] s.size (fun gh s3 wx => ∃ i : Nat, i + gh = s.size ∧ s3 = .int .i64 (i : Int) ∧ Hid (((nats s).take i).all TextMath.octet = true) ∧ wx = w)
  case atStart => exact ⟨0, by omega, by go_num, Lib.hid rfl, rfl⟩
  case round =>
    obtain ⟨i, hi, rfl, hn, rfl⟩ := hrel
    by_cases hlt : i < s.size
    · have t1 : decide ((i : Int) < (s.size : Int)) = true := decide_eq_true (by omega)
      have t1' : decide (i < s.size) = true := decide_eq_true hlt
      obtain ⟨z, hz⟩ : ∃ z, z = (s[i]'hlt).toNat := ⟨_, rfl⟩
      have hx : ((s[i]'hlt).toNat : Int) = (z : Int) := by rw [hz]
      have hzl : z < 256 := by rw [hz]; exact UInt8.toNat_lt _
      have hzi : (nats s)[i]? = some z := by rw [hz]; exact nats_at s i hlt
      have HO := Lib.hid (refOctet z wr hzl)
      cases ho : TextMath.octet z
      · have HF := Lib.hid (all_false hzi ho)
        rw [ho] at HO
        clear hn hz hzi ho
        go_wp2_with (go_at_call 36; refine HO.out.mono ?_; rintro e w2 ⟨rfl, rfl⟩)
        go_ret
        exact ⟨by rw [HF.out]; rfl, rfl⟩
      · have HN := Lib.hid (all_step hzi hn.out ho)
        rw [ho] at HO
        clear hn hz hzi ho
        go_wp2_with (go_at_call 36; refine HO.out.mono ?_; rintro e w2 ⟨rfl, rfl⟩)
        go_roundg (s.size - (i + 1))
        case measure => omega
        case rel => exact ⟨i + 1, by omega, by go_num, HN, rfl⟩
    · obtain rfl : i = s.size := by omega
      have HF := Lib.hid (show (nats s).all TextMath.octet = true by rw [← hn.out, List.take_of_length_le (by rw [nats_len]; exact Nat.le_refl _)])
      have t1 : decide (s.size < s.size) = false := decide_eq_false (by omega)
      clear hn
      go_wp2
      go_ret
      exact ⟨by rw [HF.out]; rfl, rfl⟩


set_option maxRecDepth 100000 in
set_option maxHeartbeats 4000000 in
theorem refToken (s : ByteArray) (w : World) (hs : s.size ≤ 20000) : Calls Tryd.prog 17 #[.string s] w fun e w' => e = .returned (.bool (TextMath.token (nats s))) ∧ w' = w := by
  go_enter Tryd.func17, Tryd.ntmps17
  go_wp2
  go_loopg [3] s.size (fun gh s3 wx => ∃ i : Nat, i + gh = s.size ∧ s3 = .int .i64 (i : Int) ∧ Hid (((nats s).take i).all TextMath.tokenOctet = true) ∧ wx = w)
  case atStart => exact ⟨0, by omega, by go_num, Lib.hid rfl, rfl⟩
  case round =>
    obtain ⟨i, hi, rfl, hn, rfl⟩ := hrel
    by_cases hlt : i < s.size
    · have t1 : decide ((i : Int) < (s.size : Int)) = true := decide_eq_true (by omega)
      have t1' : decide (i < s.size) = true := decide_eq_true hlt
      obtain ⟨z, hz⟩ : ∃ z, z = (s[i]'hlt).toNat := ⟨_, rfl⟩
      have hx : ((s[i]'hlt).toNat : Int) = (z : Int) := by rw [hz]
      have hzl : z < 256 := by rw [hz]; exact UInt8.toNat_lt _
      have hzi : (nats s)[i]? = some z := by rw [hz]; exact nats_at s i hlt
      have HN0 := Lib.hid (fun h => all_step hzi hn.out h)
      have HF0 := Lib.hid (fun h => all_false (p := TextMath.tokenOctet) hzi h)
      clear hn hz hzi
      go_wp2
      all_goals
        obtain ⟨w2, hw2⟩ : ∃ w2, w2 = wr := ⟨_, rfl⟩
        subst hw2
        go_loopg [5, 6] 15 (fun gh s5 s6 wx => ∃ (k : Nat) (b : Bool), k + gh = 15 ∧ s6 = .int .i64 (k : Int) ∧ s5 = .bool b ∧ Hid (b = (baseOctet z || (TextMath.signs.take k).contains z)) ∧ wx = w2)
        case atStart => exact ⟨0, baseOctet z, rfl, by go_num, by (congr 1; unfold baseOctet; rw [Bool.eq_iff_iff]; simp; omega), Lib.hid (by simp), rfl⟩
        case round =>
          obtain ⟨k, b, hk, rfl, rfl, hb, rfl⟩ := hrel
          by_cases hk15 : k < 15
          · have t2 : decide ((k : Int) < 15) = true := decide_eq_true (by omega)
            have t2' : decide (k < 15) = true := decide_eq_true hk15
            have k0 : 0 ≤ (k : Int) := by omega
            have k15 : (k : Int) < 15 := by omega
            obtain ⟨y, hy⟩ : ∃ y, y = TextMath.signs.getD k 0 := ⟨_, rfl⟩
            have hsz : k < (⟨#[33, 35, 36, 37, 38, 39, 42, 43, 45, 46, 94, 95, 96, 124, 126]⟩ : ByteArray).size := hk15
            have hyx : (((⟨#[33, 35, 36, 37, 38, 39, 42, 43, 45, 46, 94, 95, 96, 124, 126]⟩ : ByteArray)[k]'hsz).toNat : Int) = (y : Int) := by rw [sign_at k hsz, hy]
            have hT := take_contains TextMath.signs k z hk15
            rw [← hy] at hT
            cases b
            · have HN := Lib.hid (show (z == y) = (baseOctet z || (TextMath.signs.take (k + 1)).contains z) by
                rw [hT, ← Bool.or_assoc, ← hb.out, Bool.false_or])
              have hzy : ((z : Int) == (y : Int)) = (z == y) := by
                rw [Bool.eq_iff_iff]; simp; omega
              clear hb hT hy
              go_wp2
              go_roundg (15 - (k + 1))
              case measure => omega
              case rel => exact ⟨k + 1, (z == y), by omega, by go_num, rfl, HN, rfl⟩
            · have HN := Lib.hid (show true = (baseOctet z || (TextMath.signs.take (k + 1)).contains z) by
                rw [hT, ← Bool.or_assoc, ← hb.out, Bool.true_or])
              clear hb hT hy
              go_wp2
              go_roundg (15 - (k + 1))
              case measure => omega
              case rel => exact ⟨k + 1, true, by omega, by go_num, rfl, HN, rfl⟩
          · obtain rfl : k = 15 := by omega
            have hB : b = TextMath.tokenOctet z := hb.out
            cases b
            · have HF := Lib.hid (HF0.out hB.symm)
              clear hb hB
              go_wp2
              go_ret
              exact ⟨by unfold TextMath.token; rw [HF.out]; rfl, rfl⟩
            · have HN := Lib.hid (HN0.out hB.symm)
              clear hb hB
              go_wp2
              go_roundg (s.size - (i + 1))
              case measure => omega
              case rel => exact ⟨i + 1, by omega, by go_num, HN, rfl⟩
    · obtain rfl : i = s.size := by omega
      have t1 : decide (s.size < s.size) = false := decide_eq_false (by omega)
      have HF := Lib.hid (show TextMath.token (nats s) = decide (0 < s.size) by
        have h : (nats s).all TextMath.tokenOctet = true := by rw [← hn.out, List.take_of_length_le (by rw [nats_len]; exact Nat.le_refl _)]
        unfold TextMath.token
        rw [h, Bool.true_and]
        have hl := nats_len s
        cases hq : nats s with
        | nil => rw [hq] at hl; simp at hl; simp [← hl]
        | cons a r => rw [hq] at hl; simp at hl; simp; omega)
      clear hn
      go_wp2
      go_ret
      exact ⟨by rw [HF.out]; simp, rfl⟩


set_option maxHeartbeats 4000000 in
theorem refTrim (s : ByteArray) (w : World) (hs : s.size ≤ 20000) : Calls Tryd.prog 26 #[.string s] w fun e w' => e = .returned (.string (txt (TextMath.trim (nats s)))) ∧ w' = w := by
  obtain ⟨l, hl⟩ : ∃ l, l = nats s := ⟨_, rfl⟩
  have hll : l.length = s.size := by rw [hl]; exact nats_len s
  have HL := Lib.hid hl
  have HLL := Lib.hid hll
  rw [← hl]
  clear hl hll
  go_enter Tryd.func26, Tryd.ntmps26
  go_wp2
  go_loopg [3] s.size (fun gh s3 wx => ∃ i : Nat, i + gh = s.size ∧ s3 = .int .i64 (i : Int) ∧ Hid (∀ j z, j < i → l[j]? = some z → TextMath.blank z = true) ∧ wx = w)
  case atStart => exact ⟨0, by omega, by go_num, Lib.hid (fun j z hj => absurd hj (by omega)), rfl⟩
  case round =>
    obtain ⟨i, hi, rfl, hn, rfl⟩ := hrel
    by_cases hlt : i < s.size
    · have t1 : decide ((i : Int) < (s.size : Int)) = true := decide_eq_true (by omega)
      have t1' : decide (i < s.size) = true := decide_eq_true hlt
      obtain ⟨z, hz⟩ : ∃ z, z = (s[i]'hlt).toNat := ⟨_, rfl⟩
      have hx : ((s[i]'hlt).toNat : Int) = (z : Int) := by rw [hz]
      have hzl : z < 256 := by rw [hz]; exact UInt8.toNat_lt _
      have hzi : l[i]? = some z := by rw [hz, HL.out]; exact nats_at s i hlt
      have HZ := Lib.hid hzi
      have hstep : TextMath.blank z = true → ∀ j y, j < i + 1 → l[j]? = some y → TextMath.blank y = true := fun hb j y hj hy => by
        by_cases hji : j = i
        · rw [hji, hzi] at hy
          rw [← Option.some.inj hy]; exact hb
        · exact hn.out j y (by omega) hy
      have HSTEP := Lib.hid hstep
      clear hz hzi hstep
      by_cases h32 : z = 32
      · have HN := Lib.hid (HSTEP.out (by rw [h32]; rfl))
        have t2 : ((z : Int) == 32) = true := by rw [h32]; rfl
        clear hn
        go_wp2
        go_roundg (s.size - (i + 1))
        case measure => omega
        case rel => exact ⟨i + 1, by omega, by go_num, HN, rfl⟩
      · have t2 : ((z : Int) == 32) = false := by simp only [beq_eq_false_iff_ne]; omega
        by_cases h9 : z = 9
        · have HN := Lib.hid (HSTEP.out (by rw [h9]; rfl))
          have t3 : ((z : Int) == 9) = true := by rw [h9]; rfl
          clear hn
          go_wp2
          go_roundg (s.size - (i + 1))
          case measure => omega
          case rel => exact ⟨i + 1, by omega, by go_num, HN, rfl⟩
        · have t3 : ((z : Int) == 9) = false := by simp only [beq_eq_false_iff_ne]; omega
          have HNB := Lib.hid hn.out
          have HST0 := Lib.hid (show ∀ y, l[i]? = some y → TextMath.blank y = false from fun y hy => by
            rw [HZ.out] at hy
            rw [← Option.some.inj hy]
            simp [TextMath.blank, h32, h9])
          clear hn
          go_wp2
          go_loopg [4] (s.size - i) (fun gh s4 wx => ∃ t : Nat, i + gh = t ∧ t ≤ s.size ∧ s4 = .int .i64 (t : Int) ∧ Hid (∀ j z, t ≤ j → l[j]? = some z → TextMath.blank z = true) ∧ wx = wr)
          case atStart => exact ⟨s.size, by omega, Nat.le_refl _, rfl, Lib.hid (fun j z hj hz => absurd (List.getElem?_eq_some_iff.1 hz).1 (by rw [HLL.out]; omega)), rfl⟩
          case round =>
            obtain ⟨t, ht, hts, rfl, hb, rfl⟩ := hrel
            by_cases hit : i < t
            · have s1 : decide ((i : Int) < (t : Int)) = true := decide_eq_true (by omega)
              have s1' : decide (i < t) = true := decide_eq_true hit
              obtain ⟨u, hu⟩ : ∃ u, t = u + 1 := ⟨t - 1, by omega⟩
              subst hu
              have hus : u < s.size := by omega
              have k1 : (((u + 1 : Nat) : Int) - 1) = (u : Int) := by omega
              obtain ⟨y, hy⟩ : ∃ y, y = (s[u]'hus).toNat := ⟨_, rfl⟩
              have hyx : ((s[u]'hus).toNat : Int) = (y : Int) := by rw [hy]
              have hyl : y < 256 := by rw [hy]; exact UInt8.toNat_lt _
              have hyi : l[u]? = some y := by rw [hy, HL.out]; exact nats_at s u hus
              have HY := Lib.hid hyi
              have HST := Lib.hid (fun (hbl : TextMath.blank y = true) j z (hj : u ≤ j) (hz : l[j]? = some z) => (show TextMath.blank z = true from by
                by_cases hju : j = u
                · rw [hju, hyi] at hz
                  rw [← Option.some.inj hz]; exact hbl
                · exact hb.out j z (by omega) hz))
              have HBB := Lib.hid hb.out
              clear hy hyi hb
              by_cases y32 : y = 32
              · have HN := Lib.hid (HST.out (by rw [y32]; rfl))
                have s2 : ((y : Int) == 32) = true := by rw [y32]; rfl
                go_wp2
                go_roundg (u - i)
                case measure => omega
                case rel => exact ⟨u, by omega, by omega, by go_num, HN, rfl⟩
              · have s2 : ((y : Int) == 32) = false := by simp only [beq_eq_false_iff_ne]; omega
                by_cases y9 : y = 9
                · have HN := Lib.hid (HST.out (by rw [y9]; rfl))
                  have s3 : ((y : Int) == 9) = true := by rw [y9]; rfl
                  go_wp2
                  go_roundg (u - i)
                  case measure => omega
                  case rel => exact ⟨u, by omega, by omega, by go_num, HN, rfl⟩
                · have s3 : ((y : Int) == 9) = false := by simp only [beq_eq_false_iff_ne]; omega
                  have HF := Lib.hid (show txt (TextMath.trim l) = s.extract i (u + 1) by
                    rw [trim_ends l i (u + 1) (by omega) (by rw [HLL.out]; omega) HNB.out (fun z hz _ => HST0.out z hz) HBB.out (fun z _ hz => by
                      rw [show u + 1 - 1 = u by omega, HY.out] at hz
                      rw [← Option.some.inj hz]
                      simp [TextMath.blank, y32, y9]) (fun h => by omega), HL.out, ← text_extract, txt_nats])
                  have b1 : (i : Int) ≤ (u : Int) + 1 := by omega
                  have b2 : (u : Int) + 1 ≤ (s.size : Int) := by omega
                  have b3 : ((u : Int) + 1).toNat = u + 1 := by omega
                  have b4 : 0 ≤ (u : Int) + 1 := by omega
                  have b5 : i ≤ u + 1 := by omega
                  go_wp2
                  go_ret
                  exact ⟨by rw [HF.out]; rfl, rfl⟩
            · obtain rfl : i = t := by omega
              have s1 : decide (i < i) = false := decide_eq_false (by omega)
              have HF := Lib.hid (show txt (TextMath.trim l) = ByteArray.empty by
                rw [trim_ends l i i (by omega) (by rw [HLL.out]; omega) HNB.out (fun z hz h => absurd h (by omega)) hb.out (fun z h _ => absurd h (by omega)) (fun _ => by
                  by_cases hin : i < l.length
                  · have h1 := HST0.out _ (List.getElem?_eq_getElem hin)
                    rw [hb.out i _ (Nat.le_refl _) (List.getElem?_eq_getElem hin)] at h1
                    cases h1
                  · have := HLL.out
                    omega), HL.out, ← text_extract, txt_nats, ByteArray.extract_same])
              clear hb
              go_wp2
              go_ret
              exact ⟨by rw [HF.out]; rfl, rfl⟩
    · obtain rfl : i = s.size := by omega
      have t1 : decide (s.size < s.size) = false := decide_eq_false (by omega)
      have HNB := Lib.hid hn.out
      have HST0 := Lib.hid (show ∀ y, l[s.size]? = some y → TextMath.blank y = false from fun y hy => absurd (List.getElem?_eq_some_iff.1 hy).1 (by rw [HLL.out]; omega))
      clear hn
      go_wp2
      go_loopg [4] (s.size - s.size) (fun gh s4 wx => ∃ t : Nat, s.size + gh = t ∧ t ≤ s.size ∧ s4 = .int .i64 (t : Int) ∧ Hid (∀ j z, t ≤ j → l[j]? = some z → TextMath.blank z = true) ∧ wx = wr)
      case atStart => exact ⟨s.size, by omega, Nat.le_refl _, rfl, Lib.hid (fun j z hj hz => absurd (List.getElem?_eq_some_iff.1 hz).1 (by rw [HLL.out]; omega)), rfl⟩
      case round =>
        obtain ⟨t, ht, hts, rfl, hb, rfl⟩ := hrel
        by_cases hit : s.size < t
        · exact absurd hit (by omega)
        · obtain rfl : t = s.size := by omega
          have s1 : decide (s.size < s.size) = false := decide_eq_false (by omega)
          have HF := Lib.hid (show txt (TextMath.trim l) = ByteArray.empty by
            rw [trim_ends l s.size s.size (by omega) (by rw [HLL.out]; omega) HNB.out (fun z hz h => absurd h (by omega)) hb.out (fun z h _ => absurd h (by omega)) (fun _ => by
              by_cases hin : s.size < l.length
              · have h1 := HST0.out _ (List.getElem?_eq_getElem hin)
                rw [hb.out s.size _ (Nat.le_refl _) (List.getElem?_eq_getElem hin)] at h1
                cases h1
              · have := HLL.out
                omega), HL.out, ← text_extract, txt_nats, ByteArray.extract_same])
          clear hb
          go_wp2
          go_ret
          exact ⟨by rw [HF.out]; rfl, rfl⟩
end Go.Proofs.YtlgofepmdjlpgaaDoor
