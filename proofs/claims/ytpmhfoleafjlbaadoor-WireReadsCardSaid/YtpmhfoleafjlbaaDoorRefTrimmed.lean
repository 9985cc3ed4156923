/-
  The contract of the document's own Trimmed of chapter 5: it only reads. The condition: the slice's cells.
-/
import Derived.Test.YtpmhfoleafjlbaaDoorWireState
import Derived.Test.YtpmhfoleafjlbaaDoorInts
import Derived.Test.YtpmhfoleafjlbaaDoorGrow
namespace Go.Proofs.YtpmhfoleafjlbaaDoor
open Go.RowKit TextNat

set_option maxRecDepth 100000 in
set_option maxHeartbeats 4000000 in
theorem refTrimmed (zs : List Int) (pp : Option Addr) (cap : Nat) (top : Int) (w : World) (hz : Ints w pp zs) (hl : zs.length ≤ 9223372036854775807) :
    Calls Tryd.prog 40 #[.slice pp zs.length cap, .int .i64 top] w fun e w' => e = .returned (.bool (WireMath.trimmed zs top)) ∧ w' = w := by
  have HZ := Lib.hid hz
  clear hz
  by_cases h16 : 16 < zs.length
  · have t1 : decide ((16 : Int) < (zs.length : Int)) = true := decide_eq_true (by omega)
    have t1' : decide (16 < zs.length) = true := decide_eq_true h16
    rw [WireMath.trimmed_long h16]
    go_enter Tryd.func40, Tryd.ntmps40
    go_wp2
    go_ret
    exact ⟨rfl, rfl⟩
  · obtain ⟨N, hN⟩ : ∃ N, N = zs.length := ⟨_, rfl⟩
    have HN := Lib.hid hN
    rw [← hN]
    have hN16 : N ≤ 16 := by omega
    have t1 : decide ((16 : Int) < (N : Int)) = false := decide_eq_false (by omega)
    have t1' : decide (16 < N) = false := decide_eq_false (by omega)
    clear hl h16 hN
    go_enter Tryd.func40, Tryd.ntmps40
    go_wp2
    go_loopg [5] N (fun gh s5 wx => ∃ i : Nat, i + gh = N ∧ s5 = .int .i64 (i : Int) ∧ Hid (∀ (j : Nat) (z : Int), j < i → zs[j]? = some z → 0 ≤ z ∧ z ≤ top ∧ ¬ (j + 1 = zs.length ∧ z = 0)) ∧ wx = w)
    case atStart => exact ⟨0, by omega, by go_num, Lib.hid (fun j z h => absurd h (by omega)), rfl⟩
    case round =>
      obtain ⟨i, hi, rfl, hok, rfl⟩ := hrel
      by_cases hiN : i < N
      · have t2 : decide ((i : Int) < (N : Int)) = true := decide_eq_true (by omega)
        have t2' : decide (i < N) = true := decide_eq_true hiN
        have hlt : i < zs.length := by rw [← HN.out]; exact hiN
        obtain ⟨z, hz⟩ : ∃ z, zs[i]? = some z := ⟨_, List.getElem?_eq_getElem hlt⟩
        obtain ⟨hr, b, off, rfl, hc⟩ := HZ.out i z hz
        have HI := Lib.hid hz
        have HOK := Lib.hid (show (0 ≤ z ∧ z ≤ top ∧ ¬ (i + 1 = zs.length ∧ z = 0)) → ∀ (j : Nat) (y : Int), j < i + 1 → zs[j]? = some y → 0 ≤ y ∧ y ≤ top ∧ ¬ (j + 1 = zs.length ∧ y = 0) from fun h j y hj hy => by
          by_cases hji : j = i
          · subst hji
            rw [hz] at hy
            obtain rfl := Option.some.inj hy
            exact h
          · exact hok.out j y (by omega) hy)
        have HE := Lib.hid (show i + 1 = N ↔ i + 1 = zs.length by rw [HN.out])
        clear hz hlt hok
        by_cases hneg : z < 0
        · have HF := Lib.hid (WireMath.trimmed_bad (most := top) HI.out (.inl hneg))
          have t3 : decide (z < 0) = true := decide_eq_true hneg
          go_wp2
          go_ret
          rw [HF.out]
          exact ⟨rfl, rfl⟩
        · have t3 : decide (z < 0) = false := decide_eq_false hneg
          by_cases hbig : top < z
          · have HF := Lib.hid (WireMath.trimmed_bad (most := top) HI.out (.inr (.inl hbig)))
            have t4 : decide (top < z) = true := decide_eq_true hbig
            go_wp2
            go_ret
            rw [HF.out]
            exact ⟨rfl, rfl⟩
          · have t4 : decide (top < z) = false := decide_eq_false hbig
            by_cases hlast : i + 1 = N
            · have t5 : ((i : Int) == (N : Int) - 1) = true := by rw [beq_iff_eq]; omega
              by_cases h0 : z = 0
              · have HF := Lib.hid (WireMath.trimmed_bad (most := top) HI.out (.inr (.inr ⟨HE.out.1 hlast, h0⟩)))
                have t6 : (z == 0) = true := by rw [beq_iff_eq]; exact h0
                clear h0 hneg hbig
                go_wp2
                go_ret
                rw [HF.out]
                exact ⟨rfl, rfl⟩
              · have t6 : (z == 0) = false := by rw [beq_eq_false_iff_ne]; exact h0
                have HP := Lib.hid (HOK.out ⟨by omega, by omega, fun h => h0 h.2⟩)
                clear h0 hneg hbig HOK
                go_wp2
                go_roundg (N - (i + 1))
                case measure => omega
                case rel => exact ⟨i + 1, by omega, by go_num, HP, rfl⟩
            · have t5 : ((i : Int) == (N : Int) - 1) = false := by rw [beq_eq_false_iff_ne]; omega
              have HP := Lib.hid (HOK.out ⟨by omega, by omega, fun h => hlast (HE.out.2 h.1)⟩)
              clear hneg hbig HOK
              go_wp2
              go_roundg (N - (i + 1))
              case measure => omega
              case rel => exact ⟨i + 1, by omega, by go_num, HP, rfl⟩
      · obtain rfl : i = N := by omega
        have HF := Lib.hid (WireMath.trimmed_ok (v := zs) (most := top) (by rw [← HN.out]; exact hN16) fun j z hz => hok.out j z (by
          have h1 : j < zs.length := by
            rcases Nat.lt_or_ge j zs.length with g | g
            · exact g
            · rw [List.getElem?_eq_none g] at hz; cases hz
          rw [HN.out]
          exact h1) hz)
        have t2' : decide (i < i) = false := decide_eq_false (by omega)
        clear hok
        go_wp2
        go_ret
        rw [HF.out]
        exact ⟨rfl, rfl⟩
end Go.Proofs.YtpmhfoleafjlbaaDoor
