/-
  The contract of chapter 8's helper great. The conditions: the operations' cells.
-/
import Derived.Test.YtfdldjhndfohhaaDoorBlockIn
namespace Go.Proofs.YtfdldjhndfohhaaDoor
open Go.RowKit BlockMath TextNat

def greatB (xs : List OpV) : Bool := decide (300 < xs.length) || xs.any fun x => decide (3000 < x.s.size)
theorem great_no {xs : List OpV} (h : greatB xs = false) : xs.length ≤ 300 ∧ ∀ x ∈ xs, x.s.size ≤ 3000 := by
  unfold greatB at h
  rw [Bool.or_eq_false_iff] at h
  refine ⟨by have := of_decide_eq_false h.1; omega, fun x hx => ?_⟩
  have := List.any_eq_false.1 h.2 x hx
  simp at this
  exact this
theorem great_yes {xs : List OpV} {i : Nat} {x : OpV} (hx : xs[i]? = some x) (h : 300 ≤ i ∨ 3000 < x.s.size) : greatB xs = true := by
  unfold greatB
  rw [Bool.or_eq_true]
  rcases h with h | h
  · left
    have := (List.getElem?_eq_some_iff.1 hx).1
    exact decide_eq_true (by omega)
  · right
    exact List.any_eq_true.2 ⟨x, List.mem_of_getElem? hx, decide_eq_true h⟩
theorem great_end {xs : List OpV} (h : ∀ (j : Nat) (x : OpV), xs[j]? = some x → j < 300 ∧ x.s.size ≤ 3000) : greatB xs = false := by
  unfold greatB
  rw [Bool.or_eq_false_iff]
  constructor
  · apply decide_eq_false
    intro hl
    have := h 300 (xs[300]'hl) (List.getElem?_eq_getElem hl)
    omega
  · rw [List.any_eq_false]
    intro x hx
    obtain ⟨j, hj⟩ := List.getElem?_of_mem hx
    have := (h j x hj).2
    simp
    exact this
set_option maxRecDepth 100000 in
set_option maxHeartbeats 4000000 in
theorem great_ok (pp : Option Addr) (cap : Nat) (xs : List OpV) (w : World) (hI : OpsIn w pp xs) (hxs : ∀ x ∈ xs, x.right) :
    Calls Tryd.prog 8 #[.slice pp xs.length cap] w fun e w' => e = .returned (.bool (greatB xs)) ∧ w' = w := by
  obtain ⟨N, hN⟩ : ∃ N, N = xs.length := ⟨_, rfl⟩
  have HN := Lib.hid hN
  rw [← hN]
  replace hI := Lib.hid hI
  replace hxs := Lib.hid hxs
  clear hN
  go_enter Tryd.func8, Tryd.ntmps8
  go_wp2_with fail
  go_loopg [6] N (fun gh s6 wx => ∃ i : Nat, i + gh = N ∧ s6 = .int .i64 (i : Int) ∧ Hid (∀ (j : Nat) (x : OpV), j < i → xs[j]? = some x → j < 300 ∧ x.s.size ≤ 3000) ∧ wx = w)
  case atStart => exact ⟨0, by omega, by go_num, Lib.hid (fun j x hj => by omega), rfl⟩
  case round =>
    obtain ⟨i, hi, rfl, HJ, rfl⟩ := hrel
    by_cases hiN : i < N
    · have t1 : decide ((i : Int) < (N : Int)) = true := decide_eq_true (by omega)
      have t1' : decide (i < N) = true := decide_eq_true hiN
      obtain ⟨x, hx⟩ : ∃ x, xs[i]? = some x := ⟨_, List.getElem?_eq_getElem (by rw [← HN.out]; exact hiN)⟩
      obtain ⟨b, off, rfl, c0, c1, c2, c3⟩ := hI.out.at hx
      have hr := (hxs.out x (List.mem_of_getElem? hx)).2.1
      have HX := Lib.hid hx
      obtain ⟨s, hs⟩ : ∃ s, s = x.s := ⟨_, rfl⟩
      rw [← hs] at c1 hr
      have HS := Lib.hid hs
      clear c0 c2 c3 hx hs
      by_cases h1 : 300 ≤ i
      · have t2 : decide ((300 : Int) ≤ (i : Int)) = true := decide_eq_true (by omega)
        have t2' : decide (300 ≤ i) = true := decide_eq_true h1
        have HG := Lib.hid (great_yes HX.out (Or.inl h1))
        go_wp2
        go_ret
        exact ⟨by rw [HG.out]; rfl, rfl⟩
      have t2 : decide ((300 : Int) ≤ (i : Int)) = false := decide_eq_false (by omega)
      have t2' : decide (300 ≤ i) = false := decide_eq_false h1
      by_cases h2 : 3000 < s.size
      · have t3 : decide ((3000 : Int) < (s.size : Int)) = true := decide_eq_true (by omega)
        have t3' : decide (3000 < s.size) = true := decide_eq_true h2
        have HG := Lib.hid (great_yes HX.out (Or.inr (by rw [← HS.out]; exact h2)))
        go_wp2
        go_ret
        exact ⟨by rw [HG.out]; rfl, rfl⟩
      · have t3 : decide ((3000 : Int) < (s.size : Int)) = false := decide_eq_false (by omega)
        have t3' : decide (3000 < s.size) = false := decide_eq_false h2
        have HJ2 := Lib.hid (show ∀ (j : Nat) (x : OpV), j < i + 1 → xs[j]? = some x → j < 300 ∧ x.s.size ≤ 3000 from fun j y hj hy => by
          by_cases e : j < i
          · exact HJ.out j y e hy
          · obtain rfl : j = i := by omega
            obtain rfl : y = x := Option.some.inj (hy.symm.trans HX.out)
            rw [← HS.out]
            omega)
        go_wp2
        go_roundg (N - (i + 1))
        case measure => omega
        case rel => exact ⟨i + 1, by omega, by go_num, HJ2, rfl⟩
    · have t1 : decide ((i : Int) < (N : Int)) = false := decide_eq_false (by omega)
      have t1' : decide (i < N) = false := decide_eq_false hiN
      have HG := Lib.hid (great_end (xs := xs) fun j x hx => HJ.out j x (by have := (List.getElem?_eq_some_iff.1 hx).1; rw [← HN.out] at this; omega) hx)
      go_wp2
      go_ret
      exact ⟨by rw [HG.out]; rfl, rfl⟩
end Go.Proofs.YtfdldjhndfohhaaDoor
