/-
  Stamps in memory; the contracts of the document's own Less, Greatest, Right of chapter 7. The conditions: the stamps' cells.
-/
import Derived.Test.YtlhilpmlffbnkaaStampMath
import Derived.Test.YtlhilpmlffbnkaaBut
import Derived.Test.YtlhilpmlffbnkaaArr
import Derived.Test.YtlhilpmlffbnkaaResults
import Derived.WalkKit
import Derived.Handy
import Derived.Outline
import Derived.Lib.Hide
import Derived.Deep.LoopGhost
import Derived.Deep.RegionWith
import Derived.Deep.RegionLaw
import Derived.StillTailTactics
import Derived.BigQuiet
namespace Go.Proofs.Ytlhilpmlffbnkaa
open Go.RowKit StampMath

/-- The stamps 'l' stand from the address 'pp' on, two cells each. -/
def Stamps (w : World) (pp : Option Addr) (l : List St) : Prop := ∀ (i : Nat) (a : St), l[i]? = some a → ∃ b off, pp = some ⟨b, off, none⟩ ∧ w.cell? ⟨b, off + i * 2, none⟩ = some (.int .i64 a.1) ∧ w.cell? ⟨b, off + i * 2 + 1, none⟩ = some (.int .i64 a.2)
theorem Stamps.grown {w w' : World} {pp : Option Addr} {l : List St} (h : Stamps w pp l) (hb : Below w.heap.size w w') : Stamps w' pp l := fun i a ha => by
  obtain ⟨b, off, hp, h1, h2⟩ := h i a ha
  exact ⟨b, off, hp, (hb.cell (p := ⟨b, off + i * 2, none⟩) (World.block_lt_of_cell? w _ h1)).trans h1, (hb.cell (p := ⟨b, off + i * 2 + 1, none⟩) (World.block_lt_of_cell? w _ h2)).trans h2⟩
theorem below_drewN {B : Nat} {a w : World} (n : Nat) (h : Below B a w) : Below B a (w.drewN n) := ⟨h.os, h.tape, h.output, h.size, h.block⟩
theorem below_cell {B g : Nat} {a w : World} (h : Below B a w) (hg : B ≤ g) (j : Nat) (v : Value) : Below B a (w.setCell ⟨g, j, none⟩ v) :=
  ⟨h.os, h.tape, h.output, by have := h.size; simpa [World.setCell] using this, fun k hk => (Below.heap_setCell _ _ _ _ (by show k ≠ g; omega)).trans (h.block k hk)⟩
abbrev stv (a : St) : Value := .agg #[.int .i64 a.1, .int .i64 a.2]

set_option maxRecDepth 100000 in
theorem refLess (a1 a2 b1 b2 : Int) (w : World) : Calls Try.prog 9 #[.agg #[.int .i64 a1, .int .i64 a2], .agg #[.int .i64 b1, .int .i64 b2]] w fun e w' => e = .returned (.bool (less (a1, a2) (b1, b2))) ∧ Below w.heap.size w w' := by
  have HB := Lib.hid (((Below.refl w.heap.size w).alloc (Nat.le_refl _) (.cells #[.int .i64 a1, .int .i64 a2] 25)).alloc (by simp) (.cells #[.int .i64 b1, .int .i64 b2] 25))
  by_cases h : a1 = b1
  · have t1 : (a1 == b1) = true := by rw [beq_iff_eq]; exact h
    have t2 : (a1 != b1) = false := by rw [bne, t1]; rfl
    have HE := Lib.hid (show less (a1, a2) (b1, b2) = decide (a2 < b2) by unfold less; rw [if_pos h])
    clear h
    go_enter Try.func9, Try.ntmps9
    go_wp2
    go_ret
    exact ⟨by rw [HE.out]; rfl, HB.out⟩
  · have t1 : (a1 == b1) = false := by rw [beq_eq_false_iff_ne]; exact h
    have t2 : (a1 != b1) = true := by rw [bne, t1]; rfl
    have HE := Lib.hid (show less (a1, a2) (b1, b2) = decide (a1 < b1) by unfold less; rw [if_neg h])
    clear h
    go_enter Try.func9, Try.ntmps9
    go_wp2
    go_ret
    exact ⟨by rw [HE.out]; rfl, HB.out⟩
/-- May a clock be? -/
def rightB (r t : Int) : Bool := decide (0 < r) && decide (r < 17) && decide (0 ≤ t) && decide (t ≤ 1099511627776)
set_option maxRecDepth 100000 in
theorem refRight (r t : Int) (w : World) : Calls Try.prog 13 #[.int .i64 r, .int .i64 t] w fun e w' => e = .returned (.bool (rightB r t)) ∧ w' = w := by
  unfold rightB
  cases h1 : decide (0 < r) <;> cases h2 : decide (r < 17) <;> cases h3 : decide (0 ≤ t) <;> cases h4 : decide (t ≤ 1099511627776)
  all_goals
    go_enter Try.func13, Try.ntmps13
    go_wp2
    go_ret
    exact ⟨rfl, rfl⟩
set_option maxRecDepth 100000 in
set_option maxHeartbeats 4000000 in
theorem refGreatest (p : Option Addr) (c : Nat) (l : List St) (w : World) (h : Stamps w p l) (hl : l.length ≤ 1000) :
    Calls Try.prog 11 #[.slice p l.length c] w fun e w' => e = .returned (.tuple #[.agg #[.int .i64 (greatV l).1, .int .i64 (greatV l).2], .bool (greatB l)]) ∧ Below w.heap.size w w' := by
  obtain ⟨N, hN⟩ : ∃ N, N = l.length := ⟨_, rfl⟩
  obtain ⟨W0, hW0⟩ : ∃ W0, W0 = w.alloc (.cells #[.int .i64 0, .int .i64 0] 25) := ⟨_, rfl⟩
  have hs0 : W0.heap.size = w.heap.size + 1 := by rw [hW0]; simp
  have hB0 : Below w.heap.size w W0 := by rw [hW0]; exact (Below.refl _ _).alloc (Nat.le_refl _) _
  have HI := Lib.hid (h.grown hB0)
  have HB0 := Lib.hid hB0
  have hR0 : Lies W0 w.heap.size [.int .i64 0, .int .i64 0] 25 := by rw [hW0]; exact Lies.new w _ _
  have HR0 := Lib.hid hR0
  have HS0 := Lib.hid hs0
  have HN := Lib.hid hN
  have HW := Lib.hid hW0
  rw [← hN] at hl ⊢
  clear h hN hs0 hB0 hR0 hW0
  go_enter Try.func11, Try.ntmps11
  go_wp2_with fail
  rw [← HW.out]
  go_loopg [4] N (fun gh s4 wx => ∃ i : Nat, i + gh = N ∧ s4 = .int .i64 (i : Int) ∧ Hid (∀ (j : Nat) (a : St), j < i → l[j]? = some a → top l a = false) ∧ Below W0.heap.size W0 wx)
  case atStart => exact ⟨0, by omega, by go_num, Lib.hid (fun j a hj => by omega), Below.refl _ _⟩
  case round =>
    obtain ⟨i, hi, rfl, HJ, hb⟩ := hrel
    rename World => W1
    have HB1 := Lib.hid hb
    clear hb
    by_cases hiN : i < N
    · have t1 : decide ((i : Int) < (N : Int)) = true := decide_eq_true (by omega)
      have t1' : decide (i < N) = true := decide_eq_true hiN
      obtain ⟨⟨a1, a2⟩, ha⟩ : ∃ a, l[i]? = some a := ⟨_, List.getElem?_eq_getElem (by rw [← HN.out]; exact hiN)⟩
      have HA := Lib.hid ha
      clear ha
      go_wp2_with fail
      go_loopg [5, 6] N (fun gh s5 s6 wx => ∃ k : Nat, k + gh = N ∧ s6 = .int .i64 (k : Int) ∧ s5 = .bool (topTo l (a1, a2) k) ∧ Below W0.heap.size W0 wx)
      case atStart => exact ⟨0, by omega, by go_num, by rw [topTo_zero], HB1.out⟩
      case round =>
        obtain ⟨k, hk, rfl, rfl, hb2⟩ := hrel
        rename World => W2
        have HB2 := Lib.hid hb2
        obtain ⟨b, off, hp, hx1, hx2⟩ := (HI.out.grown hb2) i _ HA.out
        clear hb2
        obtain ⟨m, hm⟩ : ∃ m, m = topTo l (a1, a2) k := ⟨_, rfl⟩
        rw [← hm]
        have HM := Lib.hid hm
        clear hm
        by_cases hkN : k < N
        · have q1 : decide ((k : Int) < (N : Int)) = true := decide_eq_true (by omega)
          have q1' : decide (k < N) = true := decide_eq_true hkN
          obtain ⟨⟨b1, b2⟩, hbb⟩ : ∃ a, l[k]? = some a := ⟨_, List.getElem?_eq_getElem (by rw [← HN.out]; exact hkN)⟩
          obtain ⟨b', off', hp', hy1, hy2⟩ := (HI.out.grown HB2.out) k _ hbb
          obtain rfl : p = some ⟨b, off, none⟩ := hp
          obtain ⟨rfl, rfl⟩ : b' = b ∧ off' = off := by simpa using hp'.symm
          have HS := Lib.hid (topTo_step (a := (a1, a2)) hbb)
          have HLs := Lib.hid (refLess a1 a2 b1 b2)
          clear hbb hp'
          cases m with
          | false =>
            go_wp2_with fail
            go_quiet (fail)
            go_wp2
            go_roundg (N - (k + 1))
            case measure => omega
            case rel => exact ⟨k + 1, by omega, by go_num, by rw [HS.out, ← HM.out]; rfl, below_drewN _ HB2.out⟩
          | true =>
            have HB3 := Lib.hid (Below.trans HB2.out (Below.drew (Below.refl W2.heap.size W2) |>.mono HB2.out.size))
            go_wp2_with fail
            go_still_tail 10, (by kernel_rfl)
            change wpList _ _ _ _ _ W2.drew
            go_wp2_with (go_at_call 9; refine (HLs.out _).mono ?_; rintro e w3 ⟨rfl, hb3⟩; have HB4 := Lib.hid (HB3.out.trans (hb3.mono HB3.out.size)); clear hb3)
            go_roundg (N - (k + 1))
            case measure => omega
            case rel => exact ⟨k + 1, by omega, by go_num, by rw [HS.out, ← HM.out]; rfl, HB4.out⟩
        · have q1 : decide ((k : Int) < (N : Int)) = false := decide_eq_false (by omega)
          have q1' : decide (k < N) = false := decide_eq_false hkN
          have hT : m = top l (a1, a2) := by rw [HM.out]; exact topTo_all (by rw [← HN.out]; omega)
          have HL0 := Lib.hid (HR0.out.below HB2.out)
          have hc0 := HL0.out.cell (i := 0) rfl
          have hc1 := HL0.out.cell (i := 1) rfl
          have hf0 := HL0.out.free 0
          have hf1 := HL0.out.free 1
          cases m with
          | false =>
            have HJ2 := Lib.hid (show ∀ (j : Nat) (a : St), j < i + 1 → l[j]? = some a → top l a = false from fun j a hj hja => by
              by_cases e : j < i
              · exact HJ.out j a e hja
              · obtain rfl : j = i := by omega
                obtain rfl : a = (a1, a2) := Option.some.inj (hja.symm.trans HA.out)
                exact hT.symm)
            clear hT hp hx1 hx2
            go_wp2
            go_roundg (N - (i + 1))
            case measure => omega
            case rel => exact ⟨i + 1, by omega, by go_num, HJ2, HB2.out⟩
          | true =>
            obtain ⟨g1, g2⟩ := great_at HA.out hT.symm
            have HG1 := Lib.hid g1
            have HG2 := Lib.hid g2
            clear g1 g2 hT
            subst hp
            go_wp2
            have q2 := (HL0.out.set 0 (.int .i64 a1)).set 1 (.int .i64 a2)
            refine bodyPost_ret (results_cell_tmp Try.results11 _ _ w.heap.size 25 _ (0, 0) _ rfl q2 Try.underlying25 rfl (by kernel_rfl)) rfl ?_
            refine ⟨by rw [HG1.out, HG2.out]; rfl, ?_⟩
            exact (below_cell (below_cell (HB0.out.trans (HB2.out.mono HB0.out.size)) (Nat.le_refl _) 0 _) (Nat.le_refl _) 1 _)
    · have t1 : decide ((i : Int) < (N : Int)) = false := decide_eq_false (by omega)
      have t1' : decide (i < N) = false := decide_eq_false hiN
      obtain ⟨g1, g2⟩ := great_nil (great_none (l := l) fun j a hja => HJ.out j a (by have := (List.getElem?_eq_some_iff.1 hja).1; rw [← HN.out] at this; omega) hja)
      have HG1 := Lib.hid g1
      have HG2 := Lib.hid g2
      have HL0 := Lib.hid (HR0.out.below HB1.out)
      have hc0 := HL0.out.cell (i := 0) rfl
      have hc1 := HL0.out.cell (i := 1) rfl
      have hf0 := HL0.out.free 0
      have hf1 := HL0.out.free 1
      clear g1 g2
      go_wp2
      have q2 := (HL0.out.set 0 (.int .i64 0)).set 1 (.int .i64 0)
      refine bodyPost_ret (results_cell_tmp Try.results11 _ _ w.heap.size 25 _ (0, 0) _ rfl q2 Try.underlying25 rfl (by kernel_rfl)) rfl ?_
      refine ⟨by rw [HG1.out, HG2.out]; rfl, ?_⟩
      exact (below_cell (below_cell (HB0.out.trans (HB1.out.mono HB0.out.size)) (Nat.le_refl _) 0 _) (Nat.le_refl _) 1 _)
end Go.Proofs.Ytlhilpmlffbnkaa
