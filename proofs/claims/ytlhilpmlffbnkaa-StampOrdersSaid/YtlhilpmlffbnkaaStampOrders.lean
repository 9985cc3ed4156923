/-
  StampOrders' contract: it answers true of any stamps, out of the program's contracts. The conditions: the stamps' cells.
-/
import Derived.Test.YtlhilpmlffbnkaaStampLaws
import Derived.Deep.RegionHeld3
namespace Go.Proofs.Ytlhilpmlffbnkaa
open Go.RowKit StampMath

theorem eql_stamp (a1 a2 b1 b2 : Int) (w : World) : (binOp .eql 25 (.agg #[.int .i64 a1, .int .i64 a2]) (.agg #[.int .i64 b1, .int .i64 b2])).run Try.prog w = .ok (.bool (a1 == b1 && a2 == b2)) w := by
  cases h1 : (a1 == b1) <;> cases h2 : (a2 == b2)
  all_goals
    go_simp
    try simp [h1, h2]
theorem one_below (a1 a2 b1 b2 : Int) : ((a1 == b1 && a2 == b2) == !(less (a1, a2) (b1, b2) == less (b1, b2) (a1, a2))) = false := by
  have h := less_one (a1, a2) (b1, b2)
  have e : decide ((a1, a2) = (b1, b2)) = (a1 == b1 && a2 == b2) := by rw [Bool.eq_iff_iff, decide_eq_true_iff, Bool.and_eq_true, beq_iff_eq, beq_iff_eq, Prod.mk.injEq]
  rw [e] at h
  exact h
theorem keepTwo {W w w' : World} {A B : Nat} {u0 u1 v0 v1 : Value} (h : Below W.heap.size W w ∧ w.cell? ⟨A, 0, none⟩ = some u0 ∧ w.cell? ⟨A, 1, none⟩ = some u1 ∧ w.cell? ⟨B, 0, none⟩ = some v0 ∧ w.cell? ⟨B, 1, none⟩ = some v1) (hb : Below w.heap.size w w') :
    Below W.heap.size W w' ∧ w'.cell? ⟨A, 0, none⟩ = some u0 ∧ w'.cell? ⟨A, 1, none⟩ = some u1 ∧ w'.cell? ⟨B, 0, none⟩ = some v0 ∧ w'.cell? ⟨B, 1, none⟩ = some v1 := by
  obtain ⟨h0, h1, h2, h3, h4⟩ := h
  exact ⟨h0.trans (hb.mono h0.size), (hb.cell (p := ⟨A, 0, none⟩) (World.block_lt_of_cell? w _ h1)).trans h1, (hb.cell (p := ⟨A, 1, none⟩) (World.block_lt_of_cell? w _ h2)).trans h2, (hb.cell (p := ⟨B, 0, none⟩) (World.block_lt_of_cell? w _ h3)).trans h3, (hb.cell (p := ⟨B, 1, none⟩) (World.block_lt_of_cell? w _ h4)).trans h4⟩
set_option maxRecDepth 100000 in
set_option maxHeartbeats 4000000 in
theorem orders_true (p : Option Addr) (c : Nat) (l : List St) (w : World) (h : Stamps w p l) (hl : l.length ≤ 9223372036854775807) (hc : l.length ≤ c) (hL : LessOk) (hG : GreatestOk) (hN : NewOk) (hX : NextOk) (hS : SeeOk) :
    Calls Try.prog 3 #[.slice p l.length c] w fun e w' => e = .returned (.bool true) ∧ Below w.heap.size w w' := by
  have HA := Lib.hid (awake_true hN hX hS)
  have HL := Lib.hid hL
  have HR := Lib.hid refLess
  have HGr := Lib.hid (fun w1 (hw : Below w.heap.size w w1) (h1 : l.length ≤ 1000) => hG p c l w1 (h.grown hw) h1 hc)
  have HRg := Lib.hid (fun w1 (hw : Below w.heap.size w w1) (h1 : l.length ≤ 1000) => refGreatest p c l w1 (h.grown hw) h1)
  obtain ⟨N, hNl⟩ : ∃ N, N = l.length := ⟨_, rfl⟩
  have HI := Lib.hid h
  have HN := Lib.hid hNl
  rw [← hNl] at hl HGr HRg ⊢
  clear h hc hNl hL hG hN hX hS
  go_enter Try.func3, Try.ntmps3
  go_wp2_with fail
  refine (HA.out w).mono ?_
  rintro e w1 ⟨rfl, hb1⟩
  have HB1 := Lib.hid hb1
  clear hb1
  by_cases h100 : 100 < N
  · have t1 : decide ((100 : Int) < (N : Int)) = true := decide_eq_true (by omega)
    have t1' : decide (100 < N) = true := decide_eq_true h100
    go_wp2
    go_ret
    exact ⟨rfl, HB1.out⟩
  · have t1 : decide ((100 : Int) < (N : Int)) = false := decide_eq_false (by omega)
    have t1' : decide (100 < N) = false := decide_eq_false h100
    go_wp2_with fail
    go_loopg [18] N (fun gh s18 wx => ∃ i : Nat, i + gh = N ∧ s18 = .int .i64 (i : Int) ∧ Below w.heap.size w wx)
    case atStart => exact ⟨0, by omega, by go_num, HB1.out⟩
    case round =>
      obtain ⟨i, hi, rfl, hb⟩ := hrel
      rename World => W1
      have HW1 := Lib.hid hb
      clear hb HB1
      by_cases hiN : i < N
      · have q1 : decide ((i : Int) < (N : Int)) = true := decide_eq_true (by omega)
        have q1' : decide (i < N) = true := decide_eq_true hiN
        obtain ⟨⟨a1, a2⟩, ha⟩ : ∃ a, l[i]? = some a := ⟨_, List.getElem?_eq_getElem (by rw [← HN.out]; exact hiN)⟩
        obtain ⟨b, off, rfl, hx1, hx2⟩ := (HI.out.grown HW1.out) i _ ha
        obtain ⟨W2, hW2⟩ : ∃ W2, W2 = W1.alloc (.cells #[.int .i64 a1, .int .i64 a2] 25) := ⟨_, rfl⟩
        have HWe := Lib.hid hW2
        have HW2 := Lib.hid (show Below w.heap.size w W2 by rw [hW2]; exact HW1.out.alloc HW1.out.size _)
        have HLa := Lib.hid (show Lies W2 W1.heap.size [.int .i64 a1, .int .i64 a2] 25 by rw [hW2]; exact Lies.new W1 _ _)
        clear ha hW2
        go_wp2_with fail
        rw [← HWe.out]
        go_loopg [24] N (fun gh s24 wx => ∃ k : Nat, k + gh = N ∧ s24 = .int .i64 (k : Int) ∧ Below W2.heap.size W2 wx)
        case atStart => exact ⟨0, by omega, by go_num, Below.refl _ _⟩
        case round =>
          obtain ⟨k, hk, rfl, hb2⟩ := hrel
          rename World => W3
          have HW3 := Lib.hid hb2
          clear hb2 hx1 hx2
          by_cases hkN : k < N
          · have q2 : decide ((k : Int) < (N : Int)) = true := decide_eq_true (by omega)
            have q2' : decide (k < N) = true := decide_eq_true hkN
            obtain ⟨⟨b1, b2⟩, hbb⟩ : ∃ a, l[k]? = some a := ⟨_, List.getElem?_eq_getElem (by rw [← HN.out]; exact hkN)⟩
            have hst := HI.out.grown (HW2.out.trans (HW3.out.mono HW2.out.size))
            obtain ⟨b', off', hp', hy1, hy2⟩ := hst k _ hbb
            obtain ⟨rfl, rfl⟩ : b' = b ∧ off' = off := by simpa using hp'.symm
            obtain ⟨W4, hW4⟩ : ∃ W4, W4 = W3.alloc (.cells #[.int .i64 b1, .int .i64 b2] 25) := ⟨_, rfl⟩
            have HWf := Lib.hid hW4
            have hA4 : Below W3.heap.size W3 W4 := by rw [hW4]; exact (Below.refl _ _).alloc (Nat.le_refl _) _
            have HW4 := Lib.hid (HW3.out.trans (hA4.mono HW3.out.size))
            have hla := (HLa.out.below HW3.out).below hA4
            have hlb : Lies W4 W3.heap.size [.int .i64 b1, .int .i64 b2] 25 := by rw [hW4]; exact Lies.new W3 _ _
            have hz0 := And.intro (Below.refl W4.heap.size W4) (And.intro (hla.cell (i := 0) rfl) (And.intro (hla.cell (i := 1) rfl) (And.intro (hlb.cell (i := 0) rfl) (hlb.cell (i := 1) rfl))))
            obtain ⟨A, hA⟩ : ∃ A, A = W1.heap.size := ⟨_, rfl⟩
            obtain ⟨B, hB⟩ : ∃ B, B = W3.heap.size := ⟨_, rfl⟩
            have HZ0 := Lib.hid hz0
            rw [← hA, ← hB] at HZ0
            have HAq := Lib.hid hA
            have HBq := Lib.hid hB
            clear hbb hst hp' hW4 hA4 hla hlb hz0 hA hB
            go_wp2_with fail
            rw [← HWf.out, ← HAq.out, ← HBq.out]
            have hz1 := HZ0.out
            have heq := eql_stamp a1 a2 b1 b2
            go_region_held3 (fun w' => Below W4.heap.size W4 w' ∧ w'.cell? ⟨A, 0, none⟩ = some (.int .i64 a1) ∧ w'.cell? ⟨A, 1, none⟩ = some (.int .i64 a2) ∧ w'.cell? ⟨B, 0, none⟩ = some (.int .i64 b1) ∧ w'.cell? ⟨B, 1, none⟩ = some (.int .i64 b2))
              (first | (refine keepTwo ?_ hbb; assumption) | exact keepTwo (by assumption) (Below.refl _ _).drew | exact keepTwo hz1 (Below.refl _ _).drew)
              (first
                | (go_at_call 8; refine (HL.out _ _ _ _ _).mono ?_; rintro e wn ⟨rfl, hbb⟩)
                | (go_at_call 9; refine (HR.out _ _ _ _ _).mono ?_; rintro e wn ⟨rfl, hbb⟩))
            have hz2 : Below W4.heap.size W4 wn := by
              have hz : Below W4.heap.size W4 wn ∧ wn.cell? ⟨A, 0, none⟩ = some (.int .i64 a1) ∧ wn.cell? ⟨A, 1, none⟩ = some (.int .i64 a2) ∧ wn.cell? ⟨B, 0, none⟩ = some (.int .i64 b1) ∧ wn.cell? ⟨B, 1, none⟩ = some (.int .i64 b2) := by assumption
              exact hz.1
            have HZ2 := Lib.hid (HW4.out.trans (hz2.mono HW4.out.size))
            clear hz1 hz2
            rw [one_below a1 a2 b1 b2]
            go_wp2
            rw [HAq.out]
            go_roundg (N - (k + 1))
            case measure => omega
            case rel => exact ⟨k + 1, by omega, by go_num, HZ2.out⟩
          · have q2 : decide ((k : Int) < (N : Int)) = false := decide_eq_false (by omega)
            have q2' : decide (k < N) = false := decide_eq_false hkN
            go_wp2
            go_roundg (N - (i + 1))
            case measure => omega
            case rel => exact ⟨i + 1, by omega, by go_num, HW2.out.trans (HW3.out.mono HW2.out.size)⟩
      · have q1 : decide ((i : Int) < (N : Int)) = false := decide_eq_false (by omega)
        have q1' : decide (i < N) = false := decide_eq_false hiN
        go_wp2_with fail
        refine (HGr.out W1 HW1.out (by omega)).mono ?_
        rintro e w2 ⟨rfl, hb2⟩
        obtain ⟨g1, hg1⟩ : ∃ g1, g1 = (greatV l).1 := ⟨_, rfl⟩
        obtain ⟨g2, hg2⟩ : ∃ g2, g2 = (greatV l).2 := ⟨_, rfl⟩
        obtain ⟨gb, hgb⟩ : ∃ gb, gb = greatB l := ⟨_, rfl⟩
        rw [← hg1, ← hg2, ← hgb] at HRg ⊢
        clear hg1 hg2 hgb
        obtain ⟨W5, hW5⟩ : ∃ W5, W5 = w2.alloc (.cells #[.int .i64 g1, .int .i64 g2] 25) := ⟨_, rfl⟩
        have HE5 := Lib.hid hW5
        have hB2 := HW1.out.trans (hb2.mono HW1.out.size)
        have HW5 := Lib.hid (show Below w.heap.size w W5 by rw [hW5]; exact hB2.alloc hB2.size _)
        have HL5 := Lib.hid (show Lies W5 w2.heap.size [.int .i64 g1, .int .i64 g2] 25 by rw [hW5]; exact Lies.new w2 _ _)
        clear hW5 hB2 hb2
        go_wp2_with fail
        rw [← HE5.out]
        refine (HRg.out W5 HW5.out (by omega)).mono ?_
        rintro e w6 ⟨rfl, hb6⟩
        have hB6 := HW5.out.trans (hb6.mono HW5.out.size)
        have hA6 : Below w6.heap.size w6 (w6.alloc (.cells #[.int .i64 g1, .int .i64 g2] 25)) := (Below.refl _ _).alloc (Nat.le_refl _) _
        have HB7 := Lib.hid (hB6.trans (hA6.mono hB6.size))
        have hl5 := (HL5.out.below hb6).below hA6
        have hl6 := Lies.new w6 [.int .i64 g1, .int .i64 g2] 25
        have c0 := hl5.cell (i := 0) rfl
        have c1 := hl5.cell (i := 1) rfl
        have d0 := hl6.cell (i := 0) rfl
        have d1 := hl6.cell (i := 1) rfl
        clear hb6 hB6 hA6 hl5 hl6
        go_wp2
        go_ret
        exact ⟨rfl, HB7.out⟩
end Go.Proofs.Ytlhilpmlffbnkaa
