/-
  Whether chapter 15's laws play: how many cells, how long their values. No conditions but those typed.
-/
import Derived.Test.YtkoojfpafgkgiaaRegLaws
import Derived.Deep.LoopGhost
import Derived.StillTailTactics
namespace Go.Proofs.Ytkoojfpafgkgiaa
open Go.RowKit TextNat RegMath

def greatR (xs : List RegV) : Bool := decide (60 < xs.length) || xs.any fun x => decide (1000 < x.value.size)
theorem greatR_not {xs : List RegV} (h : greatR xs = false) : xs.length ≤ 60 ∧ ∀ x ∈ xs, x.value.size ≤ 1000 := by
  unfold greatR at h
  simp only [Bool.or_eq_false_iff, decide_eq_false_iff_not, List.any_eq_false, decide_eq_true_eq] at h
  exact ⟨by omega, fun x hx => by have := h.2 x hx; omega⟩
set_option maxRecDepth 100000 in
set_option maxHeartbeats 4000000 in
theorem great_ok (p : Option Addr) (c : Nat) (xs : List RegV) (w : World) (h : RegsIn w p xs) (hl : xs.length ≤ 9223372036854775807) :
    Calls Try.prog 8 #[.slice p xs.length c] w fun e w' => e = .returned (.bool (greatR xs)) ∧ Below w.heap.size w w' := by
  obtain ⟨N, hN⟩ : ∃ N, N = xs.length := ⟨_, rfl⟩
  have HI := Lib.hid h
  have HN := Lib.hid hN
  rw [← hN] at hl ⊢
  clear h hN
  by_cases h60 : 60 < N
  · have t1 : decide ((60 : Int) < (N : Int)) = true := decide_eq_true (by omega)
    have t1' : decide (60 < N) = true := decide_eq_true h60
    have HG := Lib.hid (show greatR xs = true by unfold greatR; rw [← HN.out, t1']; rfl)
    clear h60
    go_enter Try.func8, Try.ntmps8
    go_wp2
    go_ret
    exact ⟨by rw [HG.out]; rfl, Below.refl _ _⟩
  have t1 : decide ((60 : Int) < (N : Int)) = false := decide_eq_false (by omega)
  have t1' : decide (60 < N) = false := decide_eq_false h60
  have HG := Lib.hid (show greatR xs = xs.any fun x => decide (1000 < x.value.size) by unfold greatR; rw [← HN.out, t1']; rfl)
  go_enter Try.func8, Try.ntmps8
  go_wp2
  go_loopg [10] N (fun gh s10 wx => ∃ i : Nat, i + gh = N ∧ s10 = .int .i64 (i : Int) ∧ Hid (∀ (j : Nat) (a : RegV), j < i → xs[j]? = some a → a.value.size ≤ 1000) ∧ Below w.heap.size w wx)
  case atStart => exact ⟨0, by omega, by go_num, Lib.hid (fun j a hj => by omega), Below.refl _ _⟩
  case round =>
    obtain ⟨i, hi, rfl, HJ, hb⟩ := hrel
    rename World => W1
    have HB := Lib.hid hb
    clear hb
    by_cases hiN : i < N
    · have q1 : decide ((i : Int) < (N : Int)) = true := decide_eq_true (by omega)
      have q1' : decide (i < N) = true := decide_eq_true hiN
      obtain ⟨a, ha⟩ : ∃ a, xs[i]? = some a := ⟨_, List.getElem?_eq_getElem (by rw [← HN.out]; exact hiN)⟩
      obtain ⟨b, off, hp, x0, x1, x2, x3, x4⟩ := (HI.out.grown HB.out) i _ ha
      subst hp
      have HA := Lib.hid ha
      clear ha
      by_cases hz : 1000 < a.value.size
      · have t2 : decide ((1000 : Int) < (a.value.size : Int)) = true := decide_eq_true (by omega)
        have t2' : decide (1000 < a.value.size) = true := decide_eq_true hz
        have HV := Lib.hid (show greatR xs = true by
          rw [HG.out, List.any_eq_true]
          exact ⟨a, List.mem_of_getElem? HA.out, by simpa using hz⟩)
        clear hz
        go_wp2
        go_ret
        exact ⟨by rw [HV.out]; rfl, HB.out.alloc HB.out.size _⟩
      · have t2 : decide ((1000 : Int) < (a.value.size : Int)) = false := decide_eq_false (by omega)
        have t2' : decide (1000 < a.value.size) = false := decide_eq_false hz
        have HJ2 := Lib.hid (show ∀ (j : Nat) (z : RegV), j < i + 1 → xs[j]? = some z → z.value.size ≤ 1000 from fun j z hj hja => by
          by_cases e : j < i
          · exact HJ.out j z e hja
          · obtain rfl : j = i := by omega
            obtain rfl : z = a := Option.some.inj (hja.symm.trans HA.out)
            omega)
        clear hz HJ
        go_wp2
        go_roundg (N - (i + 1))
        case measure => omega
        case rel => exact ⟨i + 1, by omega, by go_num, HJ2, HB.out.alloc HB.out.size _⟩
    · have q1 : decide ((i : Int) < (N : Int)) = false := decide_eq_false (by omega)
      have q1' : decide (i < N) = false := decide_eq_false hiN
      have HV := Lib.hid (show greatR xs = false by
        rw [HG.out, List.any_eq_false]
        intro x hx
        obtain ⟨j, hj⟩ := List.getElem?_of_mem hx
        have := HJ.out j x (by have := (List.getElem?_eq_some_iff.1 hj).1; rw [← HN.out] at this; omega) hj
        simp
        omega)
      clear HJ
      go_wp2
      go_ret
      exact ⟨by rw [HV.out]; rfl, HB.out⟩
end Go.Proofs.Ytkoojfpafgkgiaa
