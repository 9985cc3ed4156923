/-
  StampClocks' contract: it answers true of any region, time and numbers, out of the program's contracts. The conditions: the numbers' cells.
-/
import Derived.Test.YtlhilpmlffbnkaaStampLaws
namespace Go.Proofs.Ytlhilpmlffbnkaa
open Go.RowKit StampMath

theorem right_iff {r t : Int} : rightB r t = true ↔ 0 < r ∧ r < 17 ∧ 0 ≤ t ∧ t ≤ 1099511627776 := by
  unfold rightB
  simp only [Bool.and_eq_true, decide_eq_true_iff]
  omega
set_option maxRecDepth 100000 in
set_option maxHeartbeats 4000000 in
theorem clocks_true (r t : Int) (p : Option Addr) (c : Nat) (l : List Int) (w : World) (h : Ints w p l) (_hl : l.length ≤ 9223372036854775807) (hr : I64 r) (ht : I64 t) (hN : NewOk) (hX : NextOk) (hS : SeeOk) (hT : TimeOk) :
    Calls Try.prog 4 #[.int .i64 r, .int .i64 t, .slice p l.length c] w fun e w' => e = .returned (.bool true) ∧ Below w.heap.size w w' := by
  have HA := Lib.hid (awake_true hN hX hS)
  have HNw := Lib.hid (fun w1 => hN r t w1 hr ht)
  have HX := Lib.hid hX
  have HS := Lib.hid hS
  have HTm := Lib.hid hT
  have HRt := Lib.hid (refRight r t)
  obtain ⟨N, hNl⟩ : ∃ N, N = l.length := ⟨_, rfl⟩
  have HI := Lib.hid h
  have HN := Lib.hid hNl
  rw [← hNl] at _hl ⊢
  clear h hNl hN hX hS hT hr ht
  go_enter Try.func4, Try.ntmps4
  go_wp2_with fail
  refine (HA.out w).mono ?_
  rintro e w1 ⟨rfl, hb1⟩
  have HB1 := Lib.hid hb1
  clear hb1
  go_wp2_with fail
  refine (HNw.out w1).mono ?_
  rintro e w2 ⟨hnew, hb2⟩
  have HB2 := Lib.hid (HB1.out.trans (hb2.mono HB1.out.size))
  clear hb2
  unfold NewIs at hnew
  by_cases hrt : rightB r t = true
  · rw [if_pos hrt] at hnew
    obtain ⟨b, rfl, hbl, hck⟩ := hnew
    have HCk := Lib.hid hck
    have hbl' : w.heap.size ≤ b := Nat.le_trans HB1.out.size hbl
    rw [hrt] at HRt
    have HRi := Lib.hid (right_iff.1 hrt)
    clear hrt hck hbl
    go_wp2_with fail
    refine (HRt.out w2).mono ?_
    rintro e w3 ⟨rfl, hw3⟩
    rw [hw3]
    clear hw3 w3
    go_wp2_with fail
    go_loopg [9, 10] N (fun gh s9 s10 wx => ∃ (i : Nat) (a : Int), i + gh = N ∧ i ≤ 300 ∧ s10 = .int .i64 (i : Int) ∧ s9 = .int .i64 a ∧ 0 ≤ a ∧ a ≤ 1099511627776 ∧ Clk wx b r a ∧ Below w.heap.size w wx)
    case atStart => exact ⟨0, t, by omega, by omega, by go_num, rfl, by have := HRi.out; omega, by have := HRi.out; omega, HCk.out, HB2.out⟩
    case round =>
      obtain ⟨i, a, hi, hi3, rfl, rfl, ha0, ha1, hck, hb⟩ := hrel
      rename World => W1
      have HW1 := Lib.hid hb
      have HC1 := Lib.hid hck
      clear hb hck HCk HB2
      by_cases hiN : i < N
      · have q1 : decide ((i : Int) < (N : Int)) = true := decide_eq_true (by omega)
        have q1' : decide (i < N) = true := decide_eq_true hiN
        by_cases hi300 : i < 300
        · have q2 : decide ((i : Int) < (300 : Int)) = true := decide_eq_true (by omega)
          have q2' : decide (i < 300) = true := decide_eq_true hi300
          obtain ⟨z, hz⟩ : ∃ z, l[i]? = some z := ⟨_, List.getElem?_eq_getElem (by rw [← HN.out]; exact hiN)⟩
          obtain ⟨hzr, pb, off, rfl, hcz⟩ := (HI.out.grown HW1.out) i z hz
          have HZat := Lib.hid hz
          clear hz
          by_cases hm : z = -1
          · have q3 : (z == -1) = true := by rw [beq_iff_eq]; exact hm
            clear hm hzr
            by_cases haM : a < 1099511627776
            · have q4 : decide ((1099511627776 : Int) ≤ a) = false := decide_eq_false (by omega)
              go_wp2_with fail
              refine (HX.out b r a W1 HC1.out ha0 ha1).mono ?_
              rintro e w3 ⟨h3, hb3⟩
              obtain ⟨rfl, hc3⟩ := next_at h3 haM
              have hB3 := below_but HW1.out hbl' HC1.out.lt hb3
              have HB4 := Lib.hid (hB3.alloc hB3.size (.cells #[.int .i64 (a + 1), .int .i64 r] 25))
              have HC4 := Lib.hid (hc3.below ((Below.refl _ w3).alloc (Nat.le_refl _) (.cells #[.int .i64 (a + 1), .int .i64 r] 25)))
              clear h3 hb3 hc3 hB3
              go_wp2
              go_roundg (N - (i + 1))
              case measure => omega
              case rel => exact ⟨i + 1, a + 1, by omega, by omega, by go_num, rfl, by omega, by omega, HC4.out, HB4.out⟩
            · have q4 : decide ((1099511627776 : Int) ≤ a) = true := decide_eq_true (by omega)
              go_wp2_with fail
              refine (HX.out b r a W1 HC1.out ha0 ha1).mono ?_
              rintro e w3 ⟨h3, hb3⟩
              unfold NextIs at h3
              rw [if_neg (by omega)] at h3
              obtain ⟨⟨x, rfl, hx⟩, hc3⟩ := h3
              have hB3 := below_but HW1.out hbl' HC1.out.lt hb3
              have hA3 : Below w3.heap.size w3 (w3.alloc (.cells #[.int .i64 0, .int .i64 0] 25)) := (Below.refl _ w3).alloc (Nat.le_refl _) _
              have HB4 := Lib.hid (hB3.trans (hA3.mono hB3.size))
              have HC4 := Lib.hid (hc3.below hA3)
              obtain ⟨T, y, rfl⟩ := hx.iface
              have HIs := Lib.hid (is_err (hx.below hA3) 3)
              clear hb3 hc3 hB3 hA3 hx
              go_wp2_with (go_at_call 14; refine HIs.out.mono ?_; rintro e w5 ⟨rfl, hw5⟩; rw [hw5]; clear hw5 w5)
              go_roundg (N - (i + 1))
              case measure => omega
              case rel => exact ⟨i + 1, a, by omega, by omega, by go_num, rfl, by omega, by omega, HC4.out, HB4.out⟩
          · have q3 : (z == -1) = false := by rw [beq_eq_false_iff_ne]; exact hm
            clear hm
            by_cases hzM : 0 ≤ z ∧ z ≤ 1099511627776
            · have q4 : decide (z < 0) = false := decide_eq_false (by omega)
              have q5 : decide ((1099511627776 : Int) < z) = false := decide_eq_false (by omega)
              by_cases haz : a < z
              · have q6 : decide (a < z) = true := decide_eq_true haz
                have hmx : max a z = z := by omega
                go_wp2_with fail
                refine (HS.out b r a z W1 HC1.out ha0 ha1 hzr).mono ?_
                rintro e w3 ⟨h3, hb3⟩
                obtain ⟨rfl, hc3⟩ := see_at h3 hzM
                rw [hmx] at hc3
                have hB3 := below_but HW1.out hbl' HC1.out.lt hb3
                have HB3 := Lib.hid hB3
                have HC3 := Lib.hid hc3
                have hcz3 : w3.cell? ⟨pb, off + i, none⟩ = some (.int .i64 z) := by
                  obtain ⟨_, pb', off', hp', hc'⟩ := (HI.out.grown hB3) i z HZat.out
                  obtain ⟨rfl, rfl⟩ : pb' = pb ∧ off' = off := by simpa using hp'.symm
                  exact hc'
                clear h3 hb3 hc3 hB3 hmx
                go_wp2_with (go_at_call 17; refine (HTm.out b r z _ HC3.out).mono ?_; rintro e w5 ⟨rfl, hb5⟩; have HB5 := Lib.hid (HB3.out.trans (hb5.mono HB3.out.size)); have HC5 := Lib.hid (HC3.out.below hb5); clear hb5)
                go_roundg (N - (i + 1))
                case measure => omega
                case rel => exact ⟨i + 1, z, by omega, by omega, by go_num, rfl, by omega, by omega, HC5.out, HB5.out⟩
              · have q6 : decide (a < z) = false := decide_eq_false haz
                have hmx : max a z = a := by omega
                go_wp2_with fail
                refine (HS.out b r a z W1 HC1.out ha0 ha1 hzr).mono ?_
                rintro e w3 ⟨h3, hb3⟩
                obtain ⟨rfl, hc3⟩ := see_at h3 hzM
                rw [hmx] at hc3
                have hB3 := below_but HW1.out hbl' HC1.out.lt hb3
                have HB3 := Lib.hid hB3
                have HC3 := Lib.hid hc3
                have hcz3 : w3.cell? ⟨pb, off + i, none⟩ = some (.int .i64 z) := by
                  obtain ⟨_, pb', off', hp', hc'⟩ := (HI.out.grown hB3) i z HZat.out
                  obtain ⟨rfl, rfl⟩ : pb' = pb ∧ off' = off := by simpa using hp'.symm
                  exact hc'
                clear h3 hb3 hc3 hB3 hmx
                go_wp2_with (go_at_call 17; refine (HTm.out b r a _ HC3.out).mono ?_; rintro e w5 ⟨rfl, hb5⟩; have HB5 := Lib.hid (HB3.out.trans (hb5.mono HB3.out.size)); have HC5 := Lib.hid (HC3.out.below hb5); clear hb5)
                go_roundg (N - (i + 1))
                case measure => omega
                case rel => exact ⟨i + 1, a, by omega, by omega, by go_num, rfl, by omega, by omega, HC5.out, HB5.out⟩
            · have hor : (decide (z < 0) || decide ((1099511627776 : Int) < z)) = true := by
                rw [Bool.or_eq_true, decide_eq_true_iff, decide_eq_true_iff]
                omega
              go_wp2_with fail
              refine (HS.out b r a z W1 HC1.out ha0 ha1 hzr).mono ?_
              rintro e w3 ⟨h3, hb3⟩
              unfold SeeIs at h3
              rw [if_neg hzM] at h3
              obtain ⟨⟨x, rfl, hx⟩, hc3⟩ := h3
              have hB3 := below_but HW1.out hbl' HC1.out.lt hb3
              have HB3 := Lib.hid hB3
              have HC3 := Lib.hid hc3
              have hcz3 : w3.cell? ⟨pb, off + i, none⟩ = some (.int .i64 z) := by
                obtain ⟨_, pb', off', hp', hc'⟩ := (HI.out.grown hB3) i z HZat.out
                obtain ⟨rfl, rfl⟩ : pb' = pb ∧ off' = off := by simpa using hp'.symm
                exact hc'
              obtain ⟨T, y, rfl⟩ := hx.iface
              have HIs := Lib.hid (is_err hx 1)
              clear hb3 hc3 hB3 hx hzM
              by_cases hz0 : z < 0
              · have q4 : decide (z < 0) = true := decide_eq_true hz0
                go_wp2_with (first
                  | (go_at_call 14; refine HIs.out.mono ?_; rintro e w5 ⟨rfl, hw5⟩; rw [hw5]; clear hw5 w5)
                  | (go_at_call 17; refine (HTm.out b r a _ HC3.out).mono ?_; rintro e w5 ⟨rfl, hb5⟩; have HB5 := Lib.hid (HB3.out.trans (hb5.mono HB3.out.size)); have HC5 := Lib.hid (HC3.out.below hb5); clear hb5))
                go_roundg (N - (i + 1))
                case measure => omega
                case rel => exact ⟨i + 1, a, by omega, by omega, by go_num, rfl, by omega, by omega, HC5.out, HB5.out⟩
              · have q4 : decide (z < 0) = false := decide_eq_false hz0
                have q5 : decide ((1099511627776 : Int) < z) = true := by rw [q4] at hor; exact hor
                clear hor
                go_wp2_with (first
                  | (go_at_call 14; refine HIs.out.mono ?_; rintro e w5 ⟨rfl, hw5⟩; rw [hw5]; clear hw5 w5)
                  | (go_at_call 17; refine (HTm.out b r a _ HC3.out).mono ?_; rintro e w5 ⟨rfl, hb5⟩; have HB5 := Lib.hid (HB3.out.trans (hb5.mono HB3.out.size)); have HC5 := Lib.hid (HC3.out.below hb5); clear hb5))
                go_roundg (N - (i + 1))
                case measure => omega
                case rel => exact ⟨i + 1, a, by omega, by omega, by go_num, rfl, by omega, by omega, HC5.out, HB5.out⟩
        · have q2 : decide ((i : Int) < (300 : Int)) = false := decide_eq_false (by omega)
          have q2' : decide (i < 300) = false := decide_eq_false hi300
          go_wp2_with (go_at_call 17; refine (HTm.out b r a _ HC1.out).mono ?_; rintro e w3 ⟨rfl, hb3⟩)
          go_ret
          exact ⟨rfl, HW1.out.trans (hb3.mono HW1.out.size)⟩
      · have q1 : decide ((i : Int) < (N : Int)) = false := decide_eq_false (by omega)
        have q1' : decide (i < N) = false := decide_eq_false hiN
        go_wp2_with (go_at_call 17; refine (HTm.out b r a _ HC1.out).mono ?_; rintro e w3 ⟨rfl, hb3⟩)
        go_ret
        exact ⟨rfl, HW1.out.trans (hb3.mono HW1.out.size)⟩
  · rw [if_neg hrt] at hnew
    obtain ⟨x, rfl, hx⟩ := hnew
    obtain ⟨T, y, rfl⟩ := hx.iface
    have HIs := Lib.hid (is_err hx 1)
    have hrf : rightB r t = false := by simpa using hrt
    rw [hrf] at HRt
    clear hrt hrf hx
    go_wp2_with fail
    refine (HRt.out w2).mono ?_
    rintro e w3 ⟨rfl, hw3⟩
    rw [hw3]
    clear hw3 w3
    go_wp2_with (go_at_call 14; refine HIs.out.mono ?_; rintro e w3 ⟨rfl, hw3⟩; rw [hw3]; clear hw3 w3)
    go_ret
    exact ⟨rfl, HB2.out⟩
end Go.Proofs.Ytlhilpmlffbnkaa
