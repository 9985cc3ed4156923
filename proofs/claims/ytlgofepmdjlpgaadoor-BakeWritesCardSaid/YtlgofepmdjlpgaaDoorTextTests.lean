/-
  The contracts of the program's Octets and Token of chapter 4. The condition: texts of at most 20,000 bytes.
-/
import Derived.Test.YtlgofepmdjlpgaaDoorPart16
import Derived.Test.YtlgofepmdjlpgaaDoorIndexByte
import Derived.Test.YtlgofepmdjlpgaaDoorPart13
namespace Go.Proofs.YtlgofepmdjlpgaaDoor
open Go.RowKit TextNat

set_option maxHeartbeats 2000000 in
theorem octets_same (s : ByteArray) (w : World) (hs : s.size ≤ 20000) : Calls Tryd.prog 30 #[.string s] w fun e w' => e = .returned (.bool ((nats s).all TextMath.octet)) ∧ w' = w := by
  go_enter Tryd.func30, Tryd.ntmps30
  go_wp2
  go_loopg [6] s.size (fun gh s6 wx => ∃ i : Nat, i + gh = s.size ∧ s6 = .int .i64 (i : Int) ∧ Hid (((nats s).take i).all TextMath.octet = true) ∧ wx = w)
  case atStart => exact ⟨0, by omega, by go_num, Lib.hid rfl, rfl⟩
  case round =>
    obtain ⟨i, hi, rfl, hn, rfl⟩ := hrel
    by_cases hlt : i < s.size
    · have t1 : decide ((i : Int) < (s.size : Int)) = true := decide_eq_true (by omega)
      have t1' : decide (i < s.size) = true := decide_eq_true hlt
      obtain ⟨z, hz⟩ : ∃ z, z = (s[i]'hlt).toNat := ⟨_, rfl⟩
      have hx : ((s[i]'hlt).toNat : Int) = (z : Int) := by rw [hz]
      have hzl : z < 256 := by rw [hz]; exact UInt8.toNat_lt _
      have hzi : (nats s)[i]? = some z := by rw [hz]; exact nats_at s i hlt
      have HO := Lib.hid (octetOk z wr hzl)
      cases ho : TextMath.octet z
      · have HF := Lib.hid (all_false hzi ho)
        rw [ho] at HO
        clear hn hz hzi ho
        go_wp2_with (go_at_call 45; refine HO.out.mono ?_; rintro e w2 ⟨rfl, rfl⟩)
        go_ret
        exact ⟨by rw [HF.out]; rfl, rfl⟩
      · have HN := Lib.hid (all_step hzi hn.out ho)
        rw [ho] at HO
        clear hn hz hzi ho
        go_wp2_with (go_at_call 45; refine HO.out.mono ?_; rintro e w2 ⟨rfl, rfl⟩)
        go_roundg (s.size - (i + 1))
        case measure => omega
        case rel => exact ⟨i + 1, by omega, by go_num, HN, rfl⟩
    · obtain rfl : i = s.size := by omega
      have HF := Lib.hid (show (nats s).all TextMath.octet = true by rw [← hn.out, List.take_of_length_le (by rw [nats_len]; exact Nat.le_refl _)])
      have t1 : decide (s.size < s.size) = false := decide_eq_false (by omega)
      clear hn
      go_wp2
      go_ret
      exact ⟨by rw [HF.out]; rfl, rfl⟩

/-- Where a sign stands among the signs, as the library tells it. -/
theorem sign_table : ((List.range 256).all fun c => if TextMath.signs.contains c then decide (0 ≤ Lib.indexByte [33, 35, 36, 37, 38, 39, 42, 43, 45, 46, 94, 95, 96, 124, 126] c.toUInt8) else Lib.indexByte [33, 35, 36, 37, 38, 39, 42, 43, 45, 46, 94, 95, 96, 124, 126] c.toUInt8 == -1) = true := by kernel_rfl
theorem sign_some {c : Nat} (hc : c < 256) (h : TextMath.signs.contains c = true) : ∃ k : Nat, Lib.indexByte [33, 35, 36, 37, 38, 39, 42, 43, 45, 46, 94, 95, 96, 124, 126] c.toUInt8 = (k : Int) := by
  have h1 := sign_table
  rw [List.all_eq_true] at h1
  have h2 := h1 c (List.mem_range.2 hc)
  rw [if_pos h] at h2
  have h3 := of_decide_eq_true h2
  exact ⟨_, (Int.toNat_of_nonneg h3).symm⟩
theorem sign_none {c : Nat} (hc : c < 256) (h : TextMath.signs.contains c = false) : Lib.indexByte [33, 35, 36, 37, 38, 39, 42, 43, 45, 46, 94, 95, 96, 124, 126] c.toUInt8 = -1 := by
  have h1 := sign_table
  rw [List.all_eq_true] at h1
  have h2 := h1 c (List.mem_range.2 hc)
  rw [if_neg (by rw [h]; decide)] at h2
  simpa using h2
theorem index_some {c : Nat} (hc : c < 256) (h : TextMath.signs.contains c = true) : ∃ k : Nat, ∀ w, Calls Tryd.prog 44 #[.string ⟨#[33, 35, 36, 37, 38, 39, 42, 43, 45, 46, 94, 95, 96, 124, 126]⟩, .int .u8 (c : Int)] w fun e w' => e = .returned (.int .i64 (k : Int)) ∧ w' = w := by
  obtain ⟨k, hk⟩ := sign_some hc h
  refine ⟨k, fun w => (Tryd.strings_IndexByte _ _ w).mono ?_⟩
  rintro e w' ⟨rfl, rfl⟩
  exact ⟨by rw [← hk]; rfl, rfl⟩
theorem index_none {c : Nat} (hc : c < 256) (h : TextMath.signs.contains c = false) (w : World) : Calls Tryd.prog 44 #[.string ⟨#[33, 35, 36, 37, 38, 39, 42, 43, 45, 46, 94, 95, 96, 124, 126]⟩, .int .u8 (c : Int)] w fun e w' => e = .returned (.int .i64 (-1)) ∧ w' = w := by
  refine (Tryd.strings_IndexByte _ _ w).mono ?_
  rintro e w' ⟨rfl, rfl⟩
  exact ⟨by rw [← sign_none hc h]; rfl, rfl⟩

set_option maxRecDepth 100000 in
set_option maxHeartbeats 4000000 in
theorem token_same (s : ByteArray) (w : World) (hs : s.size ≤ 20000) : Calls Tryd.prog 29 #[.string s] w fun e w' => e = .returned (.bool (TextMath.token (nats s))) ∧ w' = w := by
  go_enter Tryd.func29, Tryd.ntmps29
  go_wp2
  go_loopg [6] s.size (fun gh s6 wx => ∃ i : Nat, i + gh = s.size ∧ s6 = .int .i64 (i : Int) ∧ Hid (((nats s).take i).all TextMath.tokenOctet = true) ∧ wx = w)
  case atStart => exact ⟨0, by omega, by go_num, Lib.hid rfl, rfl⟩
  case round =>
    obtain ⟨i, hi, rfl, hn, rfl⟩ := hrel
    by_cases hlt : i < s.size
    · have t1 : decide ((i : Int) < (s.size : Int)) = true := decide_eq_true (by omega)
      have t1' : decide (i < s.size) = true := decide_eq_true hlt
      obtain ⟨z, hz⟩ : ∃ z, z = (s[i]'hlt).toNat := ⟨_, rfl⟩
      have hx : ((s[i]'hlt).toNat : Int) = (z : Int) := by rw [hz]
      have hzl : z < 256 := by rw [hz]; exact UInt8.toNat_lt _
      have hzi : (nats s)[i]? = some z := by rw [hz]; exact nats_at s i hlt
      have HN0 := Lib.hid (fun h => all_step hzi hn.out h)
      have HF0 := Lib.hid (fun h => all_false (p := TextMath.tokenOctet) hzi h)
      have HA := Lib.hid (fun w => alphanumericOk z w hzl)
      cases ha : baseOctet z
      · rw [ha] at HA
        cases hg : TextMath.signs.contains z
        · have HF := Lib.hid (HF0.out (by rw [token_split, ha, hg]; rfl))
          have HI := Lib.hid (fun w => index_none hzl hg w)
          clear hn hz hzi ha hg HN0 HF0
          go_wp2_with (first
            | (go_at_call 43; refine (HA.out _).mono ?_; rintro e w2 ⟨rfl, rfl⟩)
            | (go_at_call 44; refine (HI.out _).mono ?_; rintro e w2 ⟨rfl, rfl⟩))
          go_ret
          exact ⟨by unfold TextMath.token; rw [HF.out]; rfl, rfl⟩
        · have HN := Lib.hid (HN0.out (by rw [token_split, ha, hg]; rfl))
          obtain ⟨k, hk⟩ := index_some hzl hg
          have HI := Lib.hid hk
          clear hn hz hzi ha hg HN0 HF0 hk
          have t3 : decide ((k : Int) < 0) = false := decide_eq_false (by omega)
          go_wp2_with (first
            | (go_at_call 43; refine (HA.out _).mono ?_; rintro e w2 ⟨rfl, rfl⟩)
            | (go_at_call 44; refine (HI.out _).mono ?_; rintro e w2 ⟨rfl, rfl⟩))
          go_roundg (s.size - (i + 1))
          case measure => omega
          case rel => exact ⟨i + 1, by omega, by go_num, HN, rfl⟩
      · have HN := Lib.hid (HN0.out (by rw [token_split, ha]; rfl))
        rw [ha] at HA
        clear hn hz hzi ha HN0 HF0
        go_wp2_with (go_at_call 43; refine (HA.out _).mono ?_; rintro e w2 ⟨rfl, rfl⟩)
        go_roundg (s.size - (i + 1))
        case measure => omega
        case rel => exact ⟨i + 1, by omega, by go_num, HN, rfl⟩
    · obtain rfl : i = s.size := by omega
      have HF := Lib.hid (show (nats s).all TextMath.tokenOctet = true by rw [← hn.out, List.take_of_length_le (by rw [nats_len]; exact Nat.le_refl _)])
      have t1 : decide (s.size < s.size) = false := decide_eq_false (by omega)
      clear hn
      go_wp2
      go_ret
      refine ⟨?_, rfl⟩
      unfold TextMath.token
      rw [HF.out, Bool.true_and]
      show Ending.returned (Value.bool (!s.toList.isEmpty)) = Ending.returned (Value.bool (!(nats s).isEmpty))
      rw [ByteArray.toList_eq]
      unfold nats
      rw [List.isEmpty_map]

theorem octetsOk : OctetsOk := fun s w hs => (octets_same s w hs).mono (by rintro e w' ⟨rfl, rfl⟩; exact ⟨rfl, Below.refl _ _⟩)
theorem tokenOk : TokenOk := fun s w hs => (token_same s w hs).mono (by rintro e w' ⟨rfl, rfl⟩; exact ⟨rfl, Below.refl _ _⟩)
end Go.Proofs.YtlgofepmdjlpgaaDoor
