/-
  The contracts of the document's own reader of chapter 5: Num, Text, Flag, Vec, Fault. The conditions: the reader stands where it is said; texts of at most 200,000 bytes.
-/
import Derived.Test.YtpmhfoleafjlbaaDoorWireState
import Derived.Test.YtpmhfoleafjlbaaDoorBut
import Derived.Test.YtpmhfoleafjlbaaDoorGrow
namespace Go.Proofs.YtpmhfoleafjlbaaDoor
open Go.RowKit TextNat

def badI : Option Nat → Int
  | none => -1
  | some b => (b : Int)
/-- The document's own reader stands in block pb. -/
structure RefAt (w : World) (pb : Nat) (s : ByteArray) (st : WireMath.At) : Prop where
  text : w.cell? ⟨pb, 0, none⟩ = some (.string s)
  at_ : w.cell? ⟨pb, 1, none⟩ = some (.int .i64 (st.at_ : Int))
  bad : w.cell? ⟨pb, 2, none⟩ = some (.int .i64 (badI st.bad))
  free1 : w.frozen? ⟨pb, 1, none⟩ = false
  free2 : w.frozen? ⟨pb, 2, none⟩ = false
theorem RefAt.lt {w : World} {pb : Nat} {s : ByteArray} {st : WireMath.At} (h : RefAt w pb s st) : pb < w.heap.size := cell_lt h.text
theorem RefAt.keep {w w' : World} {pb qb : Nat} {s : ByteArray} {st : WireMath.At} (h : RefAt w pb s st) (hb : But qb w w') (hq : pb ≠ qb) : RefAt w' pb s st :=
  ⟨(hb.cell h.lt hq).trans h.text, (hb.cell h.lt hq).trans h.at_, (hb.cell h.lt hq).trans h.bad, (hb.frozen h.lt hq).trans h.free1, (hb.frozen h.lt hq).trans h.free2⟩
theorem RefAt.below {w w' : World} {pb : Nat} {s : ByteArray} {st : WireMath.At} (h : RefAt w pb s st) (hb : Below w.heap.size w w') : RefAt w' pb s st :=
  ⟨(hb.cell (p := ⟨pb, 0, none⟩) h.lt).trans h.text, (hb.cell (p := ⟨pb, 1, none⟩) h.lt).trans h.at_, (hb.cell (p := ⟨pb, 2, none⟩) h.lt).trans h.bad, (hb.frozen (p := ⟨pb, 1, none⟩) h.lt).trans h.free1, (hb.frozen (p := ⟨pb, 2, none⟩) h.lt).trans h.free2⟩
theorem RefAt.drewN {w : World} {pb : Nat} {s : ByteArray} {st : WireMath.At} (n : Nat) (h : RefAt w pb s st) : RefAt (w.drewN n) pb s st := ⟨h.text, h.at_, h.bad, h.free1, h.free2⟩
theorem RefAt.grown {w w' : World} {pb : Nat} {s : ByteArray} {st : WireMath.At} {row : Option Nat} (h : RefAt w pb s st) (hg : w.grownBy w' row) (hr : ∀ q, row = some q → pb < q) : RefAt w' pb s st := by
  have hk : w'.heap[pb]? = w.heap[pb]? := hg.block pb h.lt (fun e => by have := hr pb e.symm; omega)
  exact ⟨(World.cell?_of_block (w := w) (a := ⟨pb, 0, none⟩) hk).trans h.text, (World.cell?_of_block (w := w) (a := ⟨pb, 1, none⟩) hk).trans h.at_, (World.cell?_of_block (w := w) (a := ⟨pb, 2, none⟩) hk).trans h.bad, (World.frozen?_of_block (w := w) (a := ⟨pb, 1, none⟩) hk).trans h.free1, (World.frozen?_of_block (w := w) (a := ⟨pb, 2, none⟩) hk).trans h.free2⟩
theorem RefAt.setAt {w : World} {pb n : Nat} {s : ByteArray} {st : WireMath.At} (h : RefAt w pb s st) : RefAt (w.setCell ⟨pb, 1, none⟩ (.int .i64 (n : Int))) pb s ⟨n, st.bad⟩ :=
  ⟨(World.cell?_setCell_other _ ⟨pb, 1, none⟩ ⟨pb, 0, none⟩ _ (by simp)).trans h.text, World.cell?_setCell_same _ _ _ h.at_, (World.cell?_setCell_other _ ⟨pb, 1, none⟩ ⟨pb, 2, none⟩ _ (by simp)).trans h.bad, by rw [World.frozen?_setCell]; exact h.free1, by rw [World.frozen?_setCell]; exact h.free2⟩
theorem RefAt.setBad {w : World} {pb n : Nat} {s : ByteArray} {st : WireMath.At} (h : RefAt w pb s st) : RefAt (w.setCell ⟨pb, 2, none⟩ (.int .i64 (n : Int))) pb s ⟨st.at_, some n⟩ :=
  ⟨(World.cell?_setCell_other _ ⟨pb, 2, none⟩ ⟨pb, 0, none⟩ _ (by simp)).trans h.text, (World.cell?_setCell_other _ ⟨pb, 2, none⟩ ⟨pb, 1, none⟩ _ (by simp)).trans h.at_, World.cell?_setCell_same _ _ _ h.bad, by rw [World.frozen?_setCell]; exact h.free1, by rw [World.frozen?_setCell]; exact h.free2⟩

set_option maxRecDepth 100000 in
set_option maxHeartbeats 4000000 in
theorem refNum (pb : Nat) (s : ByteArray) (st : WireMath.At) (most : Int) (w : World) (h : RefAt w pb s st) (hs : s.size ≤ 200000) (ha : st.at_ ≤ s.size) :
    Calls Tryd.prog 26 #[.pointer (some ⟨pb, 0, none⟩), .int .i64 most] w fun e w' => e = .returned (.int .i64 ((WireMath.readNum (nats s) st most).1 : Nat)) ∧ RefAt w' pb s (WireMath.readNum (nats s) st most).2 ∧ But pb w w' := by
  obtain ⟨at_, bad⟩ := st
  have c0 := h.text
  have c1 := h.at_
  have c2 := h.bad
  have g1 := h.free1
  have g2 := h.free2
  cases bad with
  | some b =>
    have HR := Lib.hid h
    have t1 : decide ((0 : Int) ≤ (b : Int)) = true := decide_eq_true (by omega)
    have c2' : w.cell? ⟨pb, 2, none⟩ = some (.int .i64 (b : Int)) := c2
    clear h c2
    go_enter Tryd.func26, Tryd.ntmps26
    go_wp2
    go_ret
    exact ⟨rfl, HR.out, But.refl _ _⟩
  | none =>
    have c2' : w.cell? ⟨pb, 2, none⟩ = some (.int .i64 (-1)) := c2
    simp only at c1 ha
    have HR := Lib.hid h
    clear h c2
    obtain ⟨L, hL⟩ : ∃ L, L = (nats s).drop at_ := ⟨_, rfl⟩
    have hLl : L.length = s.size - at_ := by rw [hL, List.length_drop, nats_len]
    have hLat : ∀ k (hk : at_ + k < s.size), L[k]? = some (s[at_ + k].toNat) := fun k hk => by rw [hL, List.getElem?_drop]; exact nats_at s (at_ + k) hk
    have HLA := Lib.hid hLat
    have HLL := Lib.hid hLl
    have HL := Lib.hid hL
    clear hL hLl hLat
    go_enter Tryd.func26, Tryd.ntmps26
    go_wp2
    go_loopg [5, 6, 7] 9 (fun gh s5 s6 s7 wx => ∃ k n W : Nat, k + gh = 9 ∧ s5 = .int .i64 (n : Int) ∧ s6 = .int .i64 (W : Int) ∧ s7 = .int .i64 (k : Int) ∧ Hid (W = 128 ^ min k 8) ∧ Hid (n < 128 ^ k) ∧ Hid (WireMath.comb k n (WireMath.rawF (9 - k) (L.drop k)) = WireMath.rawF 9 L) ∧ Hid (RefAt wx pb s ⟨at_, none⟩) ∧ Hid (But pb w wx))
    case atStart => exact ⟨0, 0, 1, rfl, by go_num, by go_num, by go_num, Lib.hid rfl, Lib.hid (by decide), Lib.hid (WireMath.comb_zero _), HR, Lib.hid (But.refl _ _)⟩
    case round =>
      obtain ⟨k, n, W, hk, rfl, rfl, rfl, hW, hn, hc, HX, HB⟩ := hrel
      clear HR c0 c1 c2' g1 g2
      have c0 := HX.out.text
      have c1 : wr.cell? ⟨pb, 1, none⟩ = some (.int .i64 (at_ : Int)) := HX.out.at_
      have hbad : WireMath.rawF 9 L = none → WireMath.readNum (nats s) ⟨at_, none⟩ most = (0, ⟨at_, some at_⟩) := fun h => WireMath.readNum_none (by rw [← HL.out]; exact h)
      by_cases h9 : k < 9
      · have t1 : decide ((k : Int) < 9) = true := decide_eq_true (by omega)
        have t1' : decide (k < 9) = true := decide_eq_true h9
        by_cases hjs : at_ + k < s.size
        · have t2 : decide ((at_ : Int) + (k : Int) < (s.size : Int)) = true := decide_eq_true (by omega)
          go_wp2
          go_quiet (fail)
          obtain ⟨wa, hwa⟩ : ∃ wa, wa = wr.drewN nq := ⟨_, rfl⟩
          have HXa := Lib.hid (show RefAt wa pb s ⟨at_, none⟩ by rw [hwa]; exact HX.out.drewN _)
          have HBa := Lib.hid (show But pb w wa by rw [hwa]; exact HB.out.drewN _)
          have c0a := HXa.out.text
          have c1a : wa.cell? ⟨pb, 1, none⟩ = some (.int .i64 (at_ : Int)) := HXa.out.at_
          rw [← hwa]
          clear hwa HX HB c0 c1
          have i0 : (0 : Int) ≤ (at_ : Int) + (k : Int) := by omega
          have i1 : (at_ : Int) + (k : Int) < (s.size : Int) := by omega
          have i2 : ((at_ : Int) + (k : Int)).toNat = at_ + k := by omega
          go_wp2
          go_quiet (fail)
          obtain ⟨wb, hwb⟩ : ∃ wb, wb = wa.drewN nq := ⟨_, rfl⟩
          have HXb := Lib.hid (show RefAt wb pb s ⟨at_, none⟩ by rw [hwb]; exact HXa.out.drewN _)
          have HBb := Lib.hid (show But pb w wb by rw [hwb]; exact HBa.out.drewN _)
          have c1b : wb.cell? ⟨pb, 1, none⟩ = some (.int .i64 (at_ : Int)) := HXb.out.at_
          have c2b : wb.cell? ⟨pb, 2, none⟩ = some (.int .i64 (-1)) := HXb.out.bad
          have g1 := HXb.out.free1
          have g2 := HXb.out.free2
          rw [← hwb]
          obtain ⟨z, hz⟩ : ∃ z, z = (s[at_ + k]'hjs).toNat := ⟨_, rfl⟩
          have hzl : z < 256 := by rw [hz]; exact UInt8.toNat_lt _
          have hzL : L[k]? = some z := by rw [HLA.out k hjs, hz]
          simp only [← hz]
          clear hwb HXa HBa c0a c1a i0 i1 i2 t2
          have hw64 : wrap64 (z : Int) = (z : Int) := by unfold wrap64; omega
          simp only [hw64]
          obtain ⟨y, hy⟩ : ∃ y, y = z % 128 := ⟨_, rfl⟩
          have f1 : (z : Int).tmod 128 = (y : Int) := by rw [Int.tmod_eq_emod_of_nonneg (by omega)]; omega
          have hWk : W = 128 ^ k := by rw [hW.out]; congr 1; omega
          have hn2 : n + y * W < 128 ^ (k + 1) := by
            have h1 := hn.out
            have h2 : y * W ≤ 127 * 128 ^ k := by rw [hWk]; exact Nat.mul_le_mul_right _ (by omega)
            rw [Nat.pow_succ]
            omega
          have hp9 : 128 ^ (k + 1) ≤ 9223372036854775808 := Nat.le_trans (Nat.pow_le_pow_right (by decide) (show k + 1 ≤ 9 by omega)) (by decide)
          obtain ⟨p, hp⟩ : ∃ p, p = y * W := ⟨_, rfl⟩
          obtain ⟨n2, hn2e⟩ : ∃ n2, n2 = n + p := ⟨_, rfl⟩
          have hpi : (y : Int) * (W : Int) = (p : Int) := by rw [hp]; exact (Int.natCast_mul y W).symm
          rw [← hp] at hn2
          have f2 : IntKind.i64.wrap ((y : Int) * (W : Int)) = (p : Int) := by rw [hpi, IntKind.wrap_i64]; omega
          have f3 : IntKind.i64.wrap ((n : Int) + (p : Int)) = (n2 : Int) := by rw [IntKind.wrap_i64]; omega
          by_cases h128 : z < 128
          · have hend := WireMath.comb_end (n := n) h9 hzL h128
            rw [hc.out, ← hy, ← hWk, ← hp, ← hn2e] at hend
            have t3 : decide ((z : Int) < 128) = true := decide_eq_true (by omega)
            have t3' : decide (z < 128) = true := decide_eq_true h128
            have t5 : decide ((n2 : Int) < 0) = false := decide_eq_false (by omega)
            by_cases hz0 : 0 < k ∧ z = 0
            · rw [if_pos hz0] at hend
              have HF := Lib.hid (hbad hend)
              obtain ⟨hk0, hz1⟩ := hz0
              have t4 : decide ((0 : Int) < (k : Int)) = true := decide_eq_true (by omega)
              have t4' : decide (0 < k) = true := decide_eq_true hk0
              have t6 : ((z : Int) == 0) = true := by simp only [beq_iff_eq]; omega
              have t6' : (z == 0) = true := by simpa using hz1
              clear hend hbad hW hn hc hzL hzl hz hy hWk hp9 hn2 hp hn2e hpi
              go_wp2
              go_ret
              rw [HF.out]
              exact ⟨rfl, HXb.out.setBad, HBb.out.trans (But.set pb 2 wb _)⟩
            · rw [if_neg hz0] at hend
              by_cases hz1 : z = 0
              · have hk1 : k = 0 := by omega
                have t8 : ((z : Int) == 0) = true := by simp only [beq_iff_eq]; omega
                have t8' : (z == 0) = true := by simpa using hz1
                have t9 : decide ((0 : Int) < (k : Int)) = false := decide_eq_false (by omega)
                have t9' : decide (0 < k) = false := decide_eq_false (by omega)
                clear hz0 hz1 hk1
                by_cases ho : (n2 : Int) ≤ most ∧ n2 ≤ WireMath.top
                · skip
                  have HF := Lib.hid (WireMath.readNum_ok (l := nats s) (a := at_) (by rw [← HL.out]; exact hend) ho.1 ho.2)
                  have t6 : decide (most < (n2 : Int)) = false := decide_eq_false (by omega)
                  have t7 : decide ((4611686018427387903 : Int) < (n2 : Int)) = false := decide_eq_false (by have := ho.2; unfold WireMath.top at this; omega)
                  have t7' : decide (4611686018427387903 < n2) = false := decide_eq_false (by have := ho.2; unfold WireMath.top at this; omega)
                  have HJ := Lib.hid (show (at_ : Int) + (k : Int) + 1 = ((at_ + (k + 1) : Nat) : Int) by omega)
                  clear hend hbad hW hn hc hzL hzl hz hy hWk hp9 hn2 hp hn2e hpi ho
                  go_wp2
                  go_ret
                  rw [HF.out, HJ.out]
                  exact ⟨rfl, HXb.out.setAt, HBb.out.trans (But.set pb 1 wb _)⟩
                · skip
                  have HF := Lib.hid (WireMath.readNum_big (l := nats s) (a := at_) (by rw [← HL.out]; exact hend) ho)
                  unfold WireMath.top at ho
                  by_cases hm : (n2 : Int) ≤ most
                  · have t6 : decide (most < (n2 : Int)) = false := decide_eq_false (by omega)
                    have t7 : decide ((4611686018427387903 : Int) < (n2 : Int)) = true := decide_eq_true (by omega)
                    have t7' : decide (4611686018427387903 < n2) = true := decide_eq_true (by omega)
                    clear hend hbad hW hn hc hzL hzl hz hy hWk hp9 hn2 hp hn2e hpi ho
                    go_wp2
                    go_ret
                    rw [HF.out]
                    exact ⟨rfl, HXb.out.setBad, HBb.out.trans (But.set pb 2 wb _)⟩
                  · have t6 : decide (most < (n2 : Int)) = true := decide_eq_true (by omega)
                    clear hend hbad hW hn hc hzL hzl hz hy hWk hp9 hn2 hp hn2e hpi ho
                    go_wp2
                    go_ret
                    rw [HF.out]
                    exact ⟨rfl, HXb.out.setBad, HBb.out.trans (But.set pb 2 wb _)⟩
              · have t8 : ((z : Int) == 0) = false := by simp only [beq_eq_false_iff_ne]; omega
                have t8' : (z == 0) = false := by simpa using hz1
                clear hz0 hz1
                by_cases ho : (n2 : Int) ≤ most ∧ n2 ≤ WireMath.top
                · skip
                  have HF := Lib.hid (WireMath.readNum_ok (l := nats s) (a := at_) (by rw [← HL.out]; exact hend) ho.1 ho.2)
                  have t6 : decide (most < (n2 : Int)) = false := decide_eq_false (by omega)
                  have t7 : decide ((4611686018427387903 : Int) < (n2 : Int)) = false := decide_eq_false (by have := ho.2; unfold WireMath.top at this; omega)
                  have t7' : decide (4611686018427387903 < n2) = false := decide_eq_false (by have := ho.2; unfold WireMath.top at this; omega)
                  have HJ := Lib.hid (show (at_ : Int) + (k : Int) + 1 = ((at_ + (k + 1) : Nat) : Int) by omega)
                  clear hend hbad hW hn hc hzL hzl hz hy hWk hp9 hn2 hp hn2e hpi ho
                  go_wp2
                  go_ret
                  rw [HF.out, HJ.out]
                  exact ⟨rfl, HXb.out.setAt, HBb.out.trans (But.set pb 1 wb _)⟩
                · skip
                  have HF := Lib.hid (WireMath.readNum_big (l := nats s) (a := at_) (by rw [← HL.out]; exact hend) ho)
                  unfold WireMath.top at ho
                  by_cases hm : (n2 : Int) ≤ most
                  · have t6 : decide (most < (n2 : Int)) = false := decide_eq_false (by omega)
                    have t7 : decide ((4611686018427387903 : Int) < (n2 : Int)) = true := decide_eq_true (by omega)
                    have t7' : decide (4611686018427387903 < n2) = true := decide_eq_true (by omega)
                    clear hend hbad hW hn hc hzL hzl hz hy hWk hp9 hn2 hp hn2e hpi ho
                    go_wp2
                    go_ret
                    rw [HF.out]
                    exact ⟨rfl, HXb.out.setBad, HBb.out.trans (But.set pb 2 wb _)⟩
                  · have t6 : decide (most < (n2 : Int)) = true := decide_eq_true (by omega)
                    clear hend hbad hW hn hc hzL hzl hz hy hWk hp9 hn2 hp hn2e hpi ho
                    go_wp2
                    go_ret
                    rw [HF.out]
                    exact ⟨rfl, HXb.out.setBad, HBb.out.trans (But.set pb 2 wb _)⟩
          · have hgo := WireMath.comb_go (n := n) h9 hzL (by omega) hzl
            rw [hc.out, ← hy, ← hWk, ← hp, ← hn2e] at hgo
            have t3 : decide ((z : Int) < 128) = false := decide_eq_false (by omega)
            have t3' : decide (z < 128) = false := decide_eq_false h128
            have HN := Lib.hid (show n2 < 128 ^ (k + 1) by omega)
            have HG := Lib.hid hgo.symm
            by_cases h8 : k < 8
            · have t10 : decide ((k : Int) < 8) = true := decide_eq_true (by omega)
              have t10' : decide (k < 8) = true := decide_eq_true h8
              obtain ⟨W2, hW2⟩ : ∃ W2, W2 = W * 128 := ⟨_, rfl⟩
              have hW3 : W2 ≤ 72057594037927936 := by
                rw [hW2, hWk, ← Nat.pow_succ]
                exact Nat.le_trans (Nat.pow_le_pow_right (by decide) (show k + 1 ≤ 8 by omega)) (by decide)
              have f5 : IntKind.i64.wrap ((W : Int) * 128) = (W2 : Int) := by rw [IntKind.wrap_i64]; omega
              have HW2 := Lib.hid (show W2 = 128 ^ min (k + 1) 8 by rw [hW2, hWk, ← Nat.pow_succ]; congr 1; omega)
              clear hgo hbad hW hn hc hzL hzl hz hy hWk hp9 hn2 hp hn2e hpi hW2
              go_wp2
              go_roundg (9 - (k + 1))
              case measure => omega
              case rel => exact ⟨k + 1, n2, W2, by omega, rfl, rfl, by go_num, HW2, HN, HG, HXb, HBb⟩
            · obtain rfl : k = 8 := by omega
              have HW2 := Lib.hid (show W = 128 ^ min (8 + 1) 8 by rw [hWk]; rfl)
              clear hgo hbad hW hn hc hzL hzl hz hy hWk hp9 hn2 hp hn2e hpi
              go_wp2
              go_roundg 0
              case measure => omega
              case rel => exact ⟨9, n2, W, rfl, rfl, rfl, rfl, HW2, HN, HG, HXb, HBb⟩
        · have t2 : decide ((at_ : Int) + (k : Int) < (s.size : Int)) = false := decide_eq_false (by omega)
          have HF := Lib.hid (hbad (by rw [← hc.out]; exact WireMath.comb_none (.inr (by have := HLL.out; omega))))
          clear hbad hW hn hc
          go_wp2
          go_quiet (fail)
          obtain ⟨wa, hwa⟩ : ∃ wa, wa = wr.drewN nq := ⟨_, rfl⟩
          have HXa := Lib.hid (show RefAt wa pb s ⟨at_, none⟩ by rw [hwa]; exact HX.out.drewN _)
          have HBa := Lib.hid (show But pb w wa by rw [hwa]; exact HB.out.drewN _)
          have c1a : wa.cell? ⟨pb, 1, none⟩ = some (.int .i64 (at_ : Int)) := HXa.out.at_
          have c2a : wa.cell? ⟨pb, 2, none⟩ = some (.int .i64 (-1)) := HXa.out.bad
          have g2 := HXa.out.free2
          rw [← hwa]
          clear hwa HX HB c0 c1
          go_wp2
          go_ret
          rw [HF.out]
          exact ⟨rfl, HXa.out.setBad, HBa.out.trans (But.set pb 2 wa _)⟩
      · obtain rfl : k = 9 := by omega
        have HF := Lib.hid (hbad (by rw [← hc.out]; exact WireMath.comb_none (.inl (Nat.le_refl _))))
        clear hbad hW hn hc
        go_wp2
        go_quiet (fail)
        obtain ⟨wa, hwa⟩ : ∃ wa, wa = wr.drewN nq := ⟨_, rfl⟩
        have HXa := Lib.hid (show RefAt wa pb s ⟨at_, none⟩ by rw [hwa]; exact HX.out.drewN _)
        have HBa := Lib.hid (show But pb w wa by rw [hwa]; exact HB.out.drewN _)
        have c1a : wa.cell? ⟨pb, 1, none⟩ = some (.int .i64 (at_ : Int)) := HXa.out.at_
        have c2a : wa.cell? ⟨pb, 2, none⟩ = some (.int .i64 (-1)) := HXa.out.bad
        have g2 := HXa.out.free2
        rw [← hwa]
        clear hwa HX HB c0 c1
        go_wp2
        go_ret
        rw [HF.out]
        exact ⟨rfl, HXa.out.setBad, HBa.out.trans (But.set pb 2 wa _)⟩
end Go.Proofs.YtpmhfoleafjlbaaDoor
