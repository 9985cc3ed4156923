/-
  The program's rightPath and right of chapter 14. The conditions: texts of at most 20,000 bytes.
-/
import Derived.Test.YtlgofepmdjlpgaaDoorBakeP1
namespace Go.Proofs.YtlgofepmdjlpgaaDoor
open Go.RowKit TextNat BakeMath

theorem path_nil : rightPath [] = true := rfl
theorem path_unled {l : List Nat} (hl : l ≠ []) : rightPath l = (l.head? == some 47 && ((unled 47 l).all pb && (unled 47 l).head? != some 32 && (unled 47 l).getLast? != some 32)) := by
  cases l with
  | nil => exact absurd rfl hl
  | cons x t =>
    rw [path_cons]
    by_cases h : x = 47
    · subst h
      have e : unled 47 (47 :: t) = t := rfl
      rw [e]
      show (47 == 47 && t.all pb && t.head? != some 32 && t.getLast? != some 32) = (some 47 == some 47 && (t.all pb && t.head? != some 32 && t.getLast? != some 32))
      simp
    · have h1 : (x == 47) = false := by simpa using h
      have h2 : ((x :: t).head? == some 47) = false := by simpa using h
      rw [h1, h2]
      rfl
set_option maxRecDepth 100000 in
set_option maxHeartbeats 8000000 in
theorem prightPath (s : ByteArray) (w : World) (hs : s.size ≤ 20000) :
    Calls Tryd.prog 31 #[.string s] w fun e w' => e = .returned (.bool (rightPath (nats s))) ∧ w' = w := by
  by_cases h0 : s = ⟨#[]⟩
  · subst h0
    go_enter Tryd.func31, Tryd.ntmps31
    go_wp2
    go_ret
    exact ⟨rfl, rfl⟩
  have e0 := some_list h0
  have hl0 : nats s ≠ [] := fun h => h0 (by rw [← txt_nats s, h]; rfl)
  have hF := path_unled hl0
  have hC : Calls Tryd.prog 46 #[.string s, .string ⟨#[47]⟩] w fun e w' => e = .returned (.tuple #[.string (txt (unled 47 (nats s))), .bool ((nats s).head? == some 47)]) ∧ w' = w := cut_prefix s 47 w
  obtain ⟨d, hd⟩ : ∃ d, d = unled 47 (nats s) := ⟨_, rfl⟩
  have hdl : ∀ b ∈ d, b < 256 := by rw [hd]; exact unled_lt (nats_lt s)
  obtain ⟨D, hD⟩ : ∃ D, D = txt d := ⟨_, rfl⟩
  have hDn : nats D = d := by rw [hD, nats_txt _ hdl]
  have hDs : D.size ≤ 20000 := by
    rw [hD, txt_len, hd]
    have := unled_len 47 (nats s)
    rw [nats_len] at this
    omega
  obtain ⟨ok, hok⟩ : ∃ ok, ok = ((nats s).head? == some 47) := ⟨_, rfl⟩
  obtain ⟨V, hV⟩ : ∃ V, V = rightPath (nats s) := ⟨_, rfl⟩
  rw [← hd, ← hok, ← hD] at hC
  rw [← hd, ← hok, ← hV] at hF
  rw [← hV]
  have HC := Lib.hid hC
  have hP : Calls Tryd.prog 40 #[.string D, .string ⟨#[32]⟩] w fun e w' => e = .returned (.bool ((nats D).head? == some 32)) ∧ w' = w := has_prefix D 32 w
  have hS : Calls Tryd.prog 47 #[.string D, .string ⟨#[32]⟩] w fun e w' => e = .returned (.bool ((nats D).getLast? == some 32)) ∧ w' = w := has_suffix D 32 w (by omega)
  obtain ⟨b1, hb1⟩ : ∃ b1, b1 = ((nats D).head? == some 32) := ⟨_, rfl⟩
  obtain ⟨b2, hb2⟩ : ∃ b2, b2 = ((nats D).getLast? == some 32) := ⟨_, rfl⟩
  rw [← hb1] at hP
  rw [← hb2] at hS
  have HP := Lib.hid hP
  have HS := Lib.hid hS
  have HV := Lib.hid (show V = (ok && ((nats D).all pb && !b1 && !b2)) by rw [hF, hb1, hb2, hDn]; rfl)
  clear hF hC hd hdl hD hDn hok hV hP hS hb1 hb2 hl0 h0
  cases ok with
  | false =>
    have HW := Lib.hid (show V = false by rw [HV.out]; rfl)
    go_enter Tryd.func31, Tryd.ntmps31
    go_wp2_with (go_at_call 46; refine HC.out.mono ?_; rintro e w2 ⟨rfl, hw⟩; rw [hw]; clear hw)
    go_ret
    exact ⟨by rw [HW.out]; rfl, rfl⟩
  | true =>
  cases b1 with
  | true =>
    have HW := Lib.hid (show V = false by rw [HV.out]; simp)
    go_enter Tryd.func31, Tryd.ntmps31
    go_wp2_with (first
      | (go_at_call 46; refine HC.out.mono ?_; rintro e w2 ⟨rfl, hw⟩; rw [hw]; clear hw)
      | (go_at_call 40; refine HP.out.mono ?_; rintro e w2 ⟨rfl, hw⟩; rw [hw]; clear hw))
    go_ret
    exact ⟨by rw [HW.out]; rfl, rfl⟩
  | false =>
  cases b2 with
  | true =>
    have HW := Lib.hid (show V = false by rw [HV.out]; simp)
    go_enter Tryd.func31, Tryd.ntmps31
    go_wp2_with (first
      | (go_at_call 46; refine HC.out.mono ?_; rintro e w2 ⟨rfl, hw⟩; rw [hw]; clear hw)
      | (go_at_call 40; refine HP.out.mono ?_; rintro e w2 ⟨rfl, hw⟩; rw [hw]; clear hw)
      | (go_at_call 47; refine HS.out.mono ?_; rintro e w2 ⟨rfl, hw⟩; rw [hw]; clear hw))
    go_ret
    exact ⟨by rw [HW.out]; rfl, rfl⟩
  | false =>
  have HW := Lib.hid (show V = (nats D).all pb by rw [HV.out]; simp)
  clear HV
  go_enter Tryd.func31, Tryd.ntmps31
  go_wp2_with (first
    | (go_at_call 46; refine HC.out.mono ?_; rintro e w2 ⟨rfl, hw⟩; rw [hw]; clear hw)
    | (go_at_call 40; refine HP.out.mono ?_; rintro e w2 ⟨rfl, hw⟩; rw [hw]; clear hw)
    | (go_at_call 47; refine HS.out.mono ?_; rintro e w2 ⟨rfl, hw⟩; rw [hw]; clear hw))
  clear HC HP HS
  go_loopg [25] D.size (fun gh s25 wx => ∃ i : Nat, i + gh = D.size ∧ s25 = .int .i64 (i : Int) ∧ Hid (((nats D).take i).all pb = true) ∧ wx = w)
  case atStart => exact ⟨0, by omega, by go_num, Lib.hid rfl, rfl⟩
  case round =>
    obtain ⟨i, hi, rfl, ha, rfl⟩ := hrel
    by_cases hlt : i < D.size
    · have t1 : decide ((i : Int) < (D.size : Int)) = true := decide_eq_true (by omega)
      have t1' : decide (i < D.size) = true := decide_eq_true hlt
      obtain ⟨z, hz⟩ : ∃ z, z = (D[i]'hlt).toNat := ⟨_, rfl⟩
      have hx : ((D[i]'hlt).toNat : Int) = (z : Int) := by rw [hz]
      have hzi : (nats D)[i]? = some z := by rw [hz]; exact nats_at D i hlt
      cases hp : pb z with
      | true =>
        have HA := Lib.hid (all_step hzi ha.out hp)
        unfold pb at hp
        simp only [Bool.and_eq_true, decide_eq_true_eq, bne_iff_ne] at hp
        have t2 : decide ((z : Int) < 32) = false := decide_eq_false (by omega)
        have t3 : decide ((126 : Int) < (z : Int)) = false := decide_eq_false (by omega)
        have t4 : ((z : Int) == 59) = false := by rw [beq_eq_false_iff_ne]; omega
        clear ha hz hzi hp
        go_wp2
        go_roundg (D.size - (i + 1))
        case measure => omega
        case rel => exact ⟨i + 1, by omega, by go_num, HA, rfl⟩
      | false =>
        have HN := Lib.hid (show V = false by rw [HW.out]; exact all_false hzi hp)
        have hp2 : z < 32 ∨ 126 < z ∨ z = 59 := by
          unfold pb at hp
          simp only [Bool.and_eq_false_iff, decide_eq_false_iff_not, bne_eq_false_iff_eq] at hp
          omega
        clear ha hz hzi hp
        by_cases k1 : z < 32
        · have t2 : decide ((z : Int) < 32) = true := decide_eq_true (by omega)
          clear hp2 k1
          go_wp2
          go_ret
          exact ⟨by rw [HN.out]; rfl, rfl⟩
        have t2 : decide ((z : Int) < 32) = false := decide_eq_false (by omega)
        by_cases k2 : 126 < z
        · have t3 : decide ((126 : Int) < (z : Int)) = true := decide_eq_true (by omega)
          clear hp2 k1 k2
          go_wp2
          go_ret
          exact ⟨by rw [HN.out]; rfl, rfl⟩
        have t3 : decide ((126 : Int) < (z : Int)) = false := decide_eq_false (by omega)
        have t4 : ((z : Int) == 59) = true := by rw [beq_iff_eq]; omega
        clear hp2 k1 k2
        go_wp2
        go_ret
        exact ⟨by rw [HN.out]; rfl, rfl⟩
    · obtain rfl : i = D.size := by omega
      have t1 : decide (D.size < D.size) = false := decide_eq_false (by omega)
      have HN := Lib.hid (show V = true by
        rw [HW.out]
        have := ha.out
        rwa [List.take_of_length_le (by rw [nats_len]; exact Nat.le_refl _)] at this)
      clear ha
      go_wp2
      go_ret
      exact ⟨by rw [HN.out]; rfl, rfl⟩
end Go.Proofs.YtlgofepmdjlpgaaDoor
