/-
  The document's own Right of chapter 14. The condition: texts of at most 1000 bytes.
-/
import Derived.Test.YtlgofepmdjlpgaaDoorPart17
import Derived.Test.YtlgofepmdjlpgaaDoorRefOctets
import Derived.Test.YtlgofepmdjlpgaaDoorResults
namespace Go.Proofs.YtlgofepmdjlpgaaDoor
open Go.RowKit TextNat BakeMath

theorem rightT_eq (x : CookieV) : rightT x.t = (TextMath.token (nats x.name) && (nats x.value).all TextMath.octet && decide (-1 ≤ x.age) && decide (x.age ≤ 1099511627776) && decide (0 ≤ x.site) && decide (x.site ≤ 3) && !(x.site == 3 && !x.sec) && rightPath (nats x.path)) := rfl
set_option maxRecDepth 100000 in
set_option maxHeartbeats 8000000 in
theorem refRight14 (x : CookieV) (w : World) (hx : x.short) :
    Calls Tryd.prog 8 #[x.val] w fun e w' => e = .returned (.bool (rightT x.t)) ∧ Below w.heap.size w w' := by
  have HR := Lib.hid (rightT_eq x)
  obtain ⟨nm, vl, pt, ag, sc, ht, st⟩ := x
  obtain ⟨hn, hv, hp⟩ := hx
  simp only [CookieV.val] at *
  have HT := Lib.hid (fun w => refToken nm w (by omega))
  have HO := Lib.hid (fun w => refOctets vl w (by omega))
  obtain ⟨V, hV⟩ : ∃ V, V = rightT (CookieV.t ⟨nm, vl, pt, ag, sc, ht, st⟩) := ⟨_, rfl⟩
  rw [← hV] at HR ⊢
  clear hV hn hv
  obtain ⟨W, hW⟩ : ∃ W, w.alloc (.cells #[.string nm, .string vl, .string pt, .int .i64 ag, .bool sc, .bool ht, .int .i64 st] 30) = W := ⟨_, rfl⟩
  have HRow := Lib.hid (show Lies W w.heap.size [.string nm, .string vl, .string pt, .int .i64 ag, .bool sc, .bool ht, .int .i64 st] 30 by rw [← hW]; exact Lies.new w _ _)
  have HB := Lib.hid (show Below w.heap.size w W by rw [← hW]; exact (Below.refl _ _).alloc (Nat.le_refl _) _)
  obtain ⟨g, hg⟩ : ∃ g, w.heap.size = g := ⟨_, rfl⟩
  rw [hg] at HRow
  have c0 := HRow.out.cell (i := 0) rfl; have c1 := HRow.out.cell (i := 1) rfl; have c2 := HRow.out.cell (i := 2) rfl; have c3 := HRow.out.cell (i := 3) rfl; have c4 := HRow.out.cell (i := 4) rfl; have c5 := HRow.out.cell (i := 5) rfl; have c6 := HRow.out.cell (i := 6) rfl
  subst hg
  subst hW
  cases q1 : TextMath.token (nats nm) with
  | false =>
    have HV := Lib.hid (show V = false by rw [HR.out]; simp only [q1, Bool.false_and])
    rw [q1] at HT
    clear HR
    go_enter Tryd.func8, Tryd.ntmps8
    go_wp2_with (first
      | (go_at_call 17; refine (HT.out _).mono ?_; rintro e w2 ⟨rfl, hw⟩; rw [hw]; clear hw)
      | (go_at_call 18; refine (HO.out _).mono ?_; rintro e w2 ⟨rfl, hw⟩; rw [hw]; clear hw))
    go_ret
    exact ⟨by rw [HV.out]; rfl, HB.out⟩
  | true =>
    rw [q1] at HT
    cases q2 : (nats vl).all TextMath.octet with
    | false =>
      have HV := Lib.hid (show V = false by rw [HR.out]; simp only [q1, q2, Bool.false_and, Bool.and_false])
      rw [q2] at HO
      clear HR
      go_enter Tryd.func8, Tryd.ntmps8
      go_wp2_with (first
        | (go_at_call 17; refine (HT.out _).mono ?_; rintro e w2 ⟨rfl, hw⟩; rw [hw]; clear hw)
        | (go_at_call 18; refine (HO.out _).mono ?_; rintro e w2 ⟨rfl, hw⟩; rw [hw]; clear hw))
      go_ret
      exact ⟨by rw [HV.out]; rfl, HB.out⟩
    | true =>
      rw [q2] at HO
      simp only [q1, q2, Bool.true_and] at HR
      by_cases hc6 : ag < -1
      · have k3 : decide (ag < -1) = true := decide_eq_true hc6
        have HV := Lib.hid (show V = false by rw [HR.out]; simp; omega)
        clear HR hc6
        go_enter Tryd.func8, Tryd.ntmps8
        go_wp2_with (first
          | (go_at_call 17; refine (HT.out _).mono ?_; rintro e w2 ⟨rfl, hw⟩; rw [hw]; clear hw)
          | (go_at_call 18; refine (HO.out _).mono ?_; rintro e w2 ⟨rfl, hw⟩; rw [hw]; clear hw))
        go_ret
        exact ⟨by rw [HV.out]; rfl, HB.out⟩
      · have k3 : decide (ag < -1) = false := decide_eq_false hc6
        by_cases hc8 : (1099511627776 : Int) < ag
        · have k4 : decide ((1099511627776 : Int) < ag) = true := decide_eq_true hc8
          have HV := Lib.hid (show V = false by rw [HR.out]; simp; omega)
          clear HR hc8
          go_enter Tryd.func8, Tryd.ntmps8
          go_wp2_with (first
            | (go_at_call 17; refine (HT.out _).mono ?_; rintro e w2 ⟨rfl, hw⟩; rw [hw]; clear hw)
            | (go_at_call 18; refine (HO.out _).mono ?_; rintro e w2 ⟨rfl, hw⟩; rw [hw]; clear hw))
          go_ret
          exact ⟨by rw [HV.out]; rfl, HB.out⟩
        · have k4 : decide ((1099511627776 : Int) < ag) = false := decide_eq_false hc8
          by_cases hc10 : st < 0
          · have k5 : decide (st < 0) = true := decide_eq_true hc10
            have HV := Lib.hid (show V = false by rw [HR.out]; simp; omega)
            clear HR hc10
            go_enter Tryd.func8, Tryd.ntmps8
            go_wp2_with (first
              | (go_at_call 17; refine (HT.out _).mono ?_; rintro e w2 ⟨rfl, hw⟩; rw [hw]; clear hw)
              | (go_at_call 18; refine (HO.out _).mono ?_; rintro e w2 ⟨rfl, hw⟩; rw [hw]; clear hw))
            go_ret
            exact ⟨by rw [HV.out]; rfl, HB.out⟩
          · have k5 : decide (st < 0) = false := decide_eq_false hc10
            by_cases hc12 : (3 : Int) < st
            · have k6 : decide ((3 : Int) < st) = true := decide_eq_true hc12
              have HV := Lib.hid (show V = false by rw [HR.out]; simp; omega)
              clear HR hc12
              go_enter Tryd.func8, Tryd.ntmps8
              go_wp2_with (first
                | (go_at_call 17; refine (HT.out _).mono ?_; rintro e w2 ⟨rfl, hw⟩; rw [hw]; clear hw)
                | (go_at_call 18; refine (HO.out _).mono ?_; rintro e w2 ⟨rfl, hw⟩; rw [hw]; clear hw))
              go_ret
              exact ⟨by rw [HV.out]; rfl, HB.out⟩
            · have k6 : decide ((3 : Int) < st) = false := decide_eq_false hc12
              by_cases hc14 : st = 3 ∧ sc = false
              · have k7 : (st == 3) = true := by rw [beq_iff_eq]; exact hc14.1
                have k8 := hc14.2
                subst k8
                have HV := Lib.hid (show V = false by rw [HR.out]; simp [hc14.1])
                clear HR hc14
                go_enter Tryd.func8, Tryd.ntmps8
                go_wp2_with (first
                  | (go_at_call 17; refine (HT.out _).mono ?_; rintro e w2 ⟨rfl, hw⟩; rw [hw]; clear hw)
                  | (go_at_call 18; refine (HO.out _).mono ?_; rintro e w2 ⟨rfl, hw⟩; rw [hw]; clear hw))
                go_ret
                exact ⟨by rw [HV.out]; rfl, HB.out⟩
              · have hV : V = rightPath (nats pt) := by
                  rw [HR.out]
                  have e1 : decide (-1 ≤ ag) = true := decide_eq_true (by omega)
                  have e2 : decide (ag ≤ 1099511627776) = true := decide_eq_true (by omega)
                  have e3 : decide (0 ≤ st) = true := decide_eq_true (by omega)
                  have e4 : decide (st ≤ 3) = true := decide_eq_true (by omega)
                  have e5 : (!(st == 3 && !sc)) = true := by
                    cases sc with
                    | true => simp
                    | false =>
                      have h3 : (st == 3) = false := by
                        rw [beq_eq_false_iff_ne]
                        exact fun h => hc14 ⟨h, rfl⟩
                      rw [h3]
                      rfl
                  rw [e1, e2, e3, e4, e5]
                  rfl
                have HVp := Lib.hid hV
                clear hV HR
                have hsz : pt.size ≤ 1000 := hp
                by_cases h3 : st = 3
                · have k7 : (st == 3) = true := by rw [beq_iff_eq]; exact h3
                  have k8 : sc = true := by
                    cases sc with
                    | true => rfl
                    | false => exact absurd ⟨h3, rfl⟩ hc14
                  subst k8
                  clear h3 hc14
                  go_enter Tryd.func8, Tryd.ntmps8
                  go_wp2_with (first
                    | (go_at_call 17; refine (HT.out _).mono ?_; rintro e w2 ⟨rfl, hw⟩; rw [hw]; clear hw)
                    | (go_at_call 18; refine (HO.out _).mono ?_; rintro e w2 ⟨rfl, hw⟩; rw [hw]; clear hw))
                  obtain ⟨W, hW⟩ : ∃ W, W = w.alloc (.cells #[.string nm, .string vl, .string pt, .int .i64 ag, .bool true, .bool ht, .int .i64 st] 30) := ⟨_, rfl⟩
                  rw [← hW] at HRow HB c0 c1 c2 c3 c4 c5 c6 ⊢
                  obtain ⟨g, hg⟩ : ∃ g, g = w.heap.size := ⟨_, rfl⟩
                  have HBg := Lib.hid (show Below w.heap.size w W from HB.out)
                  rw [← hg] at HRow c0 c1 c2 c3 c4 c5 c6 ⊢
                  clear hW hg HB
                  go_loopg [3, 4] pt.size (fun gh s3 s4 wx => ∃ i : Nat, i + gh = pt.size ∧ s3 = .int .i64 (i : Int) ∧ Hid (∀ j b : Nat, j < i → (nats pt)[j]? = some b → badAt pt.size j b = false) ∧ wx = W)
                  case atStart => exact ⟨0, by omega, by go_num, Lib.hid (fun j b hj => absurd hj (Nat.not_lt_zero j)), rfl⟩
                  case round =>
                    obtain ⟨i, hi, rfl, ha, rfl⟩ := hrel
                    by_cases hlt : i < pt.size
                    · have t1 : decide ((i : Int) < (pt.size : Int)) = true := decide_eq_true (by omega)
                      have t1' : decide (i < pt.size) = true := decide_eq_true hlt
                      obtain ⟨b, hb⟩ : ∃ b, b = (pt[i]'hlt).toNat := ⟨_, rfl⟩
                      have hx : ((pt[i]'hlt).toNat : Int) = (b : Int) := by rw [hb]
                      have hbi : (nats pt)[i]? = some b := by rw [hb]; exact nats_at pt i hlt
                      have hb256 : b < 256 := by rw [hb]; exact UInt8.toNat_lt _
                      have kw : IntKind.i64.wrap ((pt.size : Int) - 1) = (pt.size : Int) - 1 := by rw [IntKind.wrap_i64]; omega
                      cases hbad : badAt pt.size i b with
                      | true =>
                        have HV := Lib.hid (show V = false by
                          rw [HVp.out]
                          cases hr : rightPath (nats pt) with
                          | false => rfl
                          | true =>
                            have := (path_bytes (nats pt)).1 hr i b hbi
                            rw [nats_len, hbad] at this
                            cases this)
                        unfold badAt at hbad
                        simp only [Bool.or_eq_true, Bool.and_eq_true, decide_eq_true_eq] at hbad
                        clear ha hb hbi HVp
                        by_cases hR1 : i = 0 ∧ b ≠ 47
                        · have d0 : ((i : Int) == 0) = true := by rw [beq_iff_eq]; omega
                          have d1 : ((b : Int) != 47) = true := by rw [bne_iff_ne]; omega
                          clear hbad hR1
                          go_wp2
                          go_ret
                          exact ⟨by rw [HV.out]; rfl, HBg.out⟩
                        by_cases hR2 : b < 32
                        · have d0 : ((i : Int) == 0) = false := by rw [beq_eq_false_iff_ne]; omega
                          have d2 : decide ((b : Int) < 32) = true := decide_eq_true (by omega)
                          clear hbad hR1 hR2
                          go_wp2
                          go_ret
                          exact ⟨by rw [HV.out]; rfl, HBg.out⟩
                        by_cases hR3 : 126 < b
                        · have d0 : ((i : Int) == 0) = false := by rw [beq_eq_false_iff_ne]; omega
                          have d2 : decide ((b : Int) < 32) = false := decide_eq_false (by omega)
                          have d3 : decide ((126 : Int) < (b : Int)) = true := decide_eq_true (by omega)
                          clear hbad hR1 hR2 hR3
                          go_wp2
                          go_ret
                          exact ⟨by rw [HV.out]; rfl, HBg.out⟩
                        by_cases hR4 : b = 59
                        · have d0 : ((i : Int) == 0) = false := by rw [beq_eq_false_iff_ne]; omega
                          have d2 : decide ((b : Int) < 32) = false := decide_eq_false (by omega)
                          have d3 : decide ((126 : Int) < (b : Int)) = false := decide_eq_false (by omega)
                          have d4 : ((b : Int) == 59) = true := by rw [beq_iff_eq]; omega
                          clear hbad hR1 hR2 hR3 hR4
                          go_wp2
                          go_ret
                          exact ⟨by rw [HV.out]; rfl, HBg.out⟩
                        by_cases hR5 : b = 32 ∧ i = 1
                        · have d0 : ((i : Int) == 0) = false := by rw [beq_eq_false_iff_ne]; omega
                          have d2 : decide ((b : Int) < 32) = false := decide_eq_false (by omega)
                          have d3 : decide ((126 : Int) < (b : Int)) = false := decide_eq_false (by omega)
                          have d4 : ((b : Int) == 59) = false := by rw [beq_eq_false_iff_ne]; omega
                          have d5 : ((b : Int) == 32) = true := by rw [beq_iff_eq]; omega
                          have d6 : ((i : Int) == 1) = true := by rw [beq_iff_eq]; omega
                          clear hbad hR1 hR2 hR3 hR4 hR5
                          go_wp2
                          go_ret
                          exact ⟨by rw [HV.out]; rfl, HBg.out⟩
                        have d0 : ((i : Int) == 0) = false := by rw [beq_eq_false_iff_ne]; omega
                        have d2 : decide ((b : Int) < 32) = false := decide_eq_false (by omega)
                        have d3 : decide ((126 : Int) < (b : Int)) = false := decide_eq_false (by omega)
                        have d4 : ((b : Int) == 59) = false := by rw [beq_eq_false_iff_ne]; omega
                        have d5 : ((b : Int) == 32) = true := by rw [beq_iff_eq]; omega
                        have d6 : ((i : Int) == 1) = false := by rw [beq_eq_false_iff_ne]; omega
                        have d7 : ((i : Int) == (pt.size : Int) - 1) = true := by rw [beq_iff_eq]; omega
                        clear hbad hR1 hR2 hR3 hR4 hR5
                        go_wp2
                        go_ret
                        exact ⟨by rw [HV.out]; rfl, HBg.out⟩
                      | false =>
                        have HA := Lib.hid (show ∀ j c : Nat, j < i + 1 → (nats pt)[j]? = some c → badAt pt.size j c = false from fun j c hj hc => by
                          by_cases hji : j = i
                          · subst hji
                            rw [hbi] at hc
                            rw [← Option.some.inj hc]
                            exact hbad
                          · exact ha.out j c (by omega) hc)
                        unfold badAt at hbad
                        simp only [Bool.or_eq_false_iff, Bool.and_eq_false_iff, decide_eq_false_iff_not] at hbad
                        clear ha hb hbi
                        by_cases hR1 : i = 0
                        · have d0 : ((i : Int) == 0) = true := by rw [beq_iff_eq]; omega
                          have d1 : ((b : Int) != 47) = false := by rw [bne_eq_false_iff_eq]; omega
                          have d2 : decide ((b : Int) < 32) = false := decide_eq_false (by omega)
                          have d3 : decide ((126 : Int) < (b : Int)) = false := decide_eq_false (by omega)
                          have d4 : ((b : Int) == 59) = false := by rw [beq_eq_false_iff_ne]; omega
                          have d5 : ((b : Int) == 32) = false := by rw [beq_eq_false_iff_ne]; omega
                          clear hbad hR1
                          go_wp2
                          go_roundg (pt.size - (i + 1))
                          case measure => omega
                          case rel => exact ⟨i + 1, by omega, by go_num, HA, rfl⟩
                        by_cases hR2 : b ≠ 32
                        · have d0 : ((i : Int) == 0) = false := by rw [beq_eq_false_iff_ne]; omega
                          have d2 : decide ((b : Int) < 32) = false := decide_eq_false (by omega)
                          have d3 : decide ((126 : Int) < (b : Int)) = false := decide_eq_false (by omega)
                          have d4 : ((b : Int) == 59) = false := by rw [beq_eq_false_iff_ne]; omega
                          have d5 : ((b : Int) == 32) = false := by rw [beq_eq_false_iff_ne]; omega
                          clear hbad hR1 hR2
                          go_wp2
                          go_roundg (pt.size - (i + 1))
                          case measure => omega
                          case rel => exact ⟨i + 1, by omega, by go_num, HA, rfl⟩
                        have d0 : ((i : Int) == 0) = false := by rw [beq_eq_false_iff_ne]; omega
                        have d2 : decide ((b : Int) < 32) = false := decide_eq_false (by omega)
                        have d3 : decide ((126 : Int) < (b : Int)) = false := decide_eq_false (by omega)
                        have d4 : ((b : Int) == 59) = false := by rw [beq_eq_false_iff_ne]; omega
                        have d5 : ((b : Int) == 32) = true := by rw [beq_iff_eq]; omega
                        have d6 : ((i : Int) == 1) = false := by rw [beq_eq_false_iff_ne]; omega
                        have d7 : ((i : Int) == (pt.size : Int) - 1) = false := by rw [beq_eq_false_iff_ne]; omega
                        clear hbad hR1 hR2
                        go_wp2
                        go_roundg (pt.size - (i + 1))
                        case measure => omega
                        case rel => exact ⟨i + 1, by omega, by go_num, HA, rfl⟩
                    · obtain rfl : i = pt.size := by omega
                      have t1 : decide (pt.size < pt.size) = false := decide_eq_false (by omega)
                      have HV := Lib.hid (show V = true by
                        rw [HVp.out, path_bytes]
                        intro j b hj
                        rw [nats_len]
                        exact ha.out j b (by have := (List.getElem?_eq_some_iff.1 hj).1; rw [nats_len] at this; exact this) hj)
                      clear ha HVp
                      go_wp2
                      go_ret
                      exact ⟨by rw [HV.out]; rfl, HBg.out⟩
                · have k7 : (st == 3) = false := by rw [beq_eq_false_iff_ne]; exact h3
                  clear h3 hc14
                  go_enter Tryd.func8, Tryd.ntmps8
                  go_wp2_with (first
                    | (go_at_call 17; refine (HT.out _).mono ?_; rintro e w2 ⟨rfl, hw⟩; rw [hw]; clear hw)
                    | (go_at_call 18; refine (HO.out _).mono ?_; rintro e w2 ⟨rfl, hw⟩; rw [hw]; clear hw))
                  obtain ⟨W, hW⟩ : ∃ W, W = w.alloc (.cells #[.string nm, .string vl, .string pt, .int .i64 ag, .bool sc, .bool ht, .int .i64 st] 30) := ⟨_, rfl⟩
                  rw [← hW] at HRow HB c0 c1 c2 c3 c4 c5 c6 ⊢
                  obtain ⟨g, hg⟩ : ∃ g, g = w.heap.size := ⟨_, rfl⟩
                  have HBg := Lib.hid (show Below w.heap.size w W from HB.out)
                  rw [← hg] at HRow c0 c1 c2 c3 c4 c5 c6 ⊢
                  clear hW hg HB
                  go_loopg [3, 4] pt.size (fun gh s3 s4 wx => ∃ i : Nat, i + gh = pt.size ∧ s3 = .int .i64 (i : Int) ∧ Hid (∀ j b : Nat, j < i → (nats pt)[j]? = some b → badAt pt.size j b = false) ∧ wx = W)
                  case atStart => exact ⟨0, by omega, by go_num, Lib.hid (fun j b hj => absurd hj (Nat.not_lt_zero j)), rfl⟩
                  case round =>
                    obtain ⟨i, hi, rfl, ha, rfl⟩ := hrel
                    by_cases hlt : i < pt.size
                    · have t1 : decide ((i : Int) < (pt.size : Int)) = true := decide_eq_true (by omega)
                      have t1' : decide (i < pt.size) = true := decide_eq_true hlt
                      obtain ⟨b, hb⟩ : ∃ b, b = (pt[i]'hlt).toNat := ⟨_, rfl⟩
                      have hx : ((pt[i]'hlt).toNat : Int) = (b : Int) := by rw [hb]
                      have hbi : (nats pt)[i]? = some b := by rw [hb]; exact nats_at pt i hlt
                      have hb256 : b < 256 := by rw [hb]; exact UInt8.toNat_lt _
                      have kw : IntKind.i64.wrap ((pt.size : Int) - 1) = (pt.size : Int) - 1 := by rw [IntKind.wrap_i64]; omega
                      cases hbad : badAt pt.size i b with
                      | true =>
                        have HV := Lib.hid (show V = false by
                          rw [HVp.out]
                          cases hr : rightPath (nats pt) with
                          | false => rfl
                          | true =>
                            have := (path_bytes (nats pt)).1 hr i b hbi
                            rw [nats_len, hbad] at this
                            cases this)
                        unfold badAt at hbad
                        simp only [Bool.or_eq_true, Bool.and_eq_true, decide_eq_true_eq] at hbad
                        clear ha hb hbi HVp
                        by_cases hR1 : i = 0 ∧ b ≠ 47
                        · have d0 : ((i : Int) == 0) = true := by rw [beq_iff_eq]; omega
                          have d1 : ((b : Int) != 47) = true := by rw [bne_iff_ne]; omega
                          clear hbad hR1
                          go_wp2
                          go_ret
                          exact ⟨by rw [HV.out]; rfl, HBg.out⟩
                        by_cases hR2 : b < 32
                        · have d0 : ((i : Int) == 0) = false := by rw [beq_eq_false_iff_ne]; omega
                          have d2 : decide ((b : Int) < 32) = true := decide_eq_true (by omega)
                          clear hbad hR1 hR2
                          go_wp2
                          go_ret
                          exact ⟨by rw [HV.out]; rfl, HBg.out⟩
                        by_cases hR3 : 126 < b
                        · have d0 : ((i : Int) == 0) = false := by rw [beq_eq_false_iff_ne]; omega
                          have d2 : decide ((b : Int) < 32) = false := decide_eq_false (by omega)
                          have d3 : decide ((126 : Int) < (b : Int)) = true := decide_eq_true (by omega)
                          clear hbad hR1 hR2 hR3
                          go_wp2
                          go_ret
                          exact ⟨by rw [HV.out]; rfl, HBg.out⟩
                        by_cases hR4 : b = 59
                        · have d0 : ((i : Int) == 0) = false := by rw [beq_eq_false_iff_ne]; omega
                          have d2 : decide ((b : Int) < 32) = false := decide_eq_false (by omega)
                          have d3 : decide ((126 : Int) < (b : Int)) = false := decide_eq_false (by omega)
                          have d4 : ((b : Int) == 59) = true := by rw [beq_iff_eq]; omega
                          clear hbad hR1 hR2 hR3 hR4
                          go_wp2
                          go_ret
                          exact ⟨by rw [HV.out]; rfl, HBg.out⟩
                        by_cases hR5 : b = 32 ∧ i = 1
                        · have d0 : ((i : Int) == 0) = false := by rw [beq_eq_false_iff_ne]; omega
                          have d2 : decide ((b : Int) < 32) = false := decide_eq_false (by omega)
                          have d3 : decide ((126 : Int) < (b : Int)) = false := decide_eq_false (by omega)
                          have d4 : ((b : Int) == 59) = false := by rw [beq_eq_false_iff_ne]; omega
                          have d5 : ((b : Int) == 32) = true := by rw [beq_iff_eq]; omega
                          have d6 : ((i : Int) == 1) = true := by rw [beq_iff_eq]; omega
                          clear hbad hR1 hR2 hR3 hR4 hR5
                          go_wp2
                          go_ret
                          exact ⟨by rw [HV.out]; rfl, HBg.out⟩
                        have d0 : ((i : Int) == 0) = false := by rw [beq_eq_false_iff_ne]; omega
                        have d2 : decide ((b : Int) < 32) = false := decide_eq_false (by omega)
                        have d3 : decide ((126 : Int) < (b : Int)) = false := decide_eq_false (by omega)
                        have d4 : ((b : Int) == 59) = false := by rw [beq_eq_false_iff_ne]; omega
                        have d5 : ((b : Int) == 32) = true := by rw [beq_iff_eq]; omega
                        have d6 : ((i : Int) == 1) = false := by rw [beq_eq_false_iff_ne]; omega
                        have d7 : ((i : Int) == (pt.size : Int) - 1) = true := by rw [beq_iff_eq]; omega
                        clear hbad hR1 hR2 hR3 hR4 hR5
                        go_wp2
                        go_ret
                        exact ⟨by rw [HV.out]; rfl, HBg.out⟩
                      | false =>
                        have HA := Lib.hid (show ∀ j c : Nat, j < i + 1 → (nats pt)[j]? = some c → badAt pt.size j c = false from fun j c hj hc => by
                          by_cases hji : j = i
                          · subst hji
                            rw [hbi] at hc
                            rw [← Option.some.inj hc]
                            exact hbad
                          · exact ha.out j c (by omega) hc)
                        unfold badAt at hbad
                        simp only [Bool.or_eq_false_iff, Bool.and_eq_false_iff, decide_eq_false_iff_not] at hbad
                        clear ha hb hbi
                        by_cases hR1 : i = 0
                        · have d0 : ((i : Int) == 0) = true := by rw [beq_iff_eq]; omega
                          have d1 : ((b : Int) != 47) = false := by rw [bne_eq_false_iff_eq]; omega
                          have d2 : decide ((b : Int) < 32) = false := decide_eq_false (by omega)
                          have d3 : decide ((126 : Int) < (b : Int)) = false := decide_eq_false (by omega)
                          have d4 : ((b : Int) == 59) = false := by rw [beq_eq_false_iff_ne]; omega
                          have d5 : ((b : Int) == 32) = false := by rw [beq_eq_false_iff_ne]; omega
                          clear hbad hR1
                          go_wp2
                          go_roundg (pt.size - (i + 1))
                          case measure => omega
                          case rel => exact ⟨i + 1, by omega, by go_num, HA, rfl⟩
                        by_cases hR2 : b ≠ 32
                        · have d0 : ((i : Int) == 0) = false := by rw [beq_eq_false_iff_ne]; omega
                          have d2 : decide ((b : Int) < 32) = false := decide_eq_false (by omega)
                          have d3 : decide ((126 : Int) < (b : Int)) = false := decide_eq_false (by omega)
                          have d4 : ((b : Int) == 59) = false := by rw [beq_eq_false_iff_ne]; omega
                          have d5 : ((b : Int) == 32) = false := by rw [beq_eq_false_iff_ne]; omega
                          clear hbad hR1 hR2
                          go_wp2
                          go_roundg (pt.size - (i + 1))
                          case measure => omega
                          case rel => exact ⟨i + 1, by omega, by go_num, HA, rfl⟩
                        have d0 : ((i : Int) == 0) = false := by rw [beq_eq_false_iff_ne]; omega
                        have d2 : decide ((b : Int) < 32) = false := decide_eq_false (by omega)
                        have d3 : decide ((126 : Int) < (b : Int)) = false := decide_eq_false (by omega)
                        have d4 : ((b : Int) == 59) = false := by rw [beq_eq_false_iff_ne]; omega
                        have d5 : ((b : Int) == 32) = true := by rw [beq_iff_eq]; omega
                        have d6 : ((i : Int) == 1) = false := by rw [beq_eq_false_iff_ne]; omega
                        have d7 : ((i : Int) == (pt.size : Int) - 1) = false := by rw [beq_eq_false_iff_ne]; omega
                        clear hbad hR1 hR2
                        go_wp2
                        go_roundg (pt.size - (i + 1))
                        case measure => omega
                        case rel => exact ⟨i + 1, by omega, by go_num, HA, rfl⟩
                    · obtain rfl : i = pt.size := by omega
                      have t1 : decide (pt.size < pt.size) = false := decide_eq_false (by omega)
                      have HV := Lib.hid (show V = true by
                        rw [HVp.out, path_bytes]
                        intro j b hj
                        rw [nats_len]
                        exact ha.out j b (by have := (List.getElem?_eq_some_iff.1 hj).1; rw [nats_len] at this; exact this) hj)
                      clear ha HVp
                      go_wp2
                      go_ret
                      exact ⟨by rw [HV.out]; rfl, HBg.out⟩
end Go.Proofs.YtlgofepmdjlpgaaDoor
