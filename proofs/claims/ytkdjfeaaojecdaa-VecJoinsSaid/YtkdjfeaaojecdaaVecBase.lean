/-
  New vectors in memory; the contract of the document's own At of chapter 6. The conditions: the vectors' cells.
-/
import Derived.Test.YtkdjfeaaojecdaaGrowInts
import Derived.Test.YtkdjfeaaojecdaaInts
import Derived.Test.YtkdjfeaaojecdaaVecMath
namespace Go.Proofs.Ytkdjfeaaojecdaa
open Go.RowKit

/-- Within Go's int. -/
def Fits (l : List Int) : Prop := ∀ z ∈ l, -9223372036854775808 ≤ z ∧ z ≤ 9223372036854775807
theorem Ints.fits {w : World} {pp : Option Addr} {l : List Int} (h : Ints w pp l) : Fits l := fun z hz => by
  obtain ⟨i, hi⟩ := List.getElem?_of_mem hz
  exact (h i z hi).1
theorem Fits.cnt {l : List Int} (h : Fits l) (i : Nat) : -9223372036854775808 ≤ VecMath.cnt l i ∧ VecMath.cnt l i ≤ 9223372036854775807 := by
  by_cases hi : i < l.length
  · have h2 : l[i]? = some (l[i]'hi) := List.getElem?_eq_getElem hi
    rw [VecMath.cnt_at h2]
    exact h _ (List.mem_of_getElem? h2)
  · rw [VecMath.cnt_behind (by omega)]
    omega
theorem Fits.trim {l : List Int} (h : Fits l) : Fits (VecMath.trim l) := fun z hz => by
  obtain ⟨i, hi⟩ := List.getElem?_of_mem hz
  have := h.cnt i
  rw [← VecMath.cnt_trim, VecMath.cnt_at hi] at this
  exact this
/-- A new vector: a row of the call's own, in blocks from B on. -/
def NewVec (B : Nat) (w : World) (v : Value) (l : List Int) : Prop := OwnsM w B 3 v l.length (l.map (Value.int .i64))
theorem NewVec.slice {B : Nat} {w : World} {v : Value} {l : List Int} (h : NewVec B w v l) (hf : Fits l) : ∃ p c, v = .slice p l.length c ∧ Ints w p l ∧ ∀ a, p = some a → B ≤ a.block := by
  obtain ⟨p, c, rfl⟩ := OwnsM.shape h
  refine ⟨p, c, rfl, fun i z hz => ⟨hf z (List.mem_of_getElem? hz), ?_⟩, ?_⟩
  · have hi := (List.getElem?_eq_some_iff.1 hz).1
    obtain ⟨g, cap, hv, _, _, _, _, hcell, _⟩ := OwnsM.open h (by omega)
    have hp : p = some ⟨g, 0, none⟩ := by simpa using congrArg (fun v => match v with | .slice p _ _ => p | _ => none) hv
    refine ⟨g, 0, hp, ?_⟩
    rw [Nat.zero_add, hcell i hi, List.getElem?_map, hz]
    rfl
  · intro a ha
    subst ha
    exact (OwnsM.lt h a.block rfl).1
theorem at_step {l : List Int} {i : Nat} {r z : Int} (h : l[i]? = some z) (hr : r = (i : Int) + 1) : VecMath.at_ l r = z := by
  rw [hr, show ((i : Int) + 1) = ((i + 1 : Nat) : Int) by omega, VecMath.at_nat, VecMath.cnt_at h]
theorem at_none {l : List Int} {r : Int} (h : ∀ i : Nat, i < l.length → r ≠ (i : Int) + 1) : VecMath.at_ l r = 0 := by
  unfold VecMath.at_
  split
  · rename_i h1
    refine VecMath.cnt_behind ?_
    by_cases hl : r.toNat - 1 < l.length
    · exact absurd (by omega) (h (r.toNat - 1) hl)
    · omega
  · rfl
set_option maxRecDepth 100000 in
set_option maxHeartbeats 4000000 in
theorem refAt (p : Option Addr) (c : Nat) (l : List Int) (r : Int) (w : World) (h : Ints w p l) (hl : l.length ≤ 9223372036854775807) :
    Calls Try.prog 12 #[.slice p l.length c, .int .i64 r] w fun e w' => e = .returned (.int .i64 (VecMath.at_ l r)) ∧ w' = w := by
  obtain ⟨N, hN⟩ : ∃ N, N = l.length := ⟨_, rfl⟩
  have HI := Lib.hid h
  have HN := Lib.hid hN
  rw [← hN] at hl ⊢
  clear h hN
  go_enter Try.func12, Try.ntmps12
  go_wp2_with fail
  go_loopg [5] N (fun gh s5 wx => ∃ i : Nat, i + gh = N ∧ s5 = .int .i64 (i : Int) ∧ Hid (∀ j : Nat, j < i → r ≠ (j : Int) + 1) ∧ wx = w)
  case atStart => exact ⟨0, by omega, by go_num, Lib.hid (fun j hj => by omega), rfl⟩
  case round =>
    obtain ⟨i, hi, rfl, HJ, rfl⟩ := hrel
    by_cases hiN : i < N
    · have t1 : decide ((i : Int) < (N : Int)) = true := decide_eq_true (by omega)
      have t1' : decide (i < N) = true := decide_eq_true hiN
      obtain ⟨z, hz⟩ : ∃ z, l[i]? = some z := ⟨_, List.getElem?_eq_getElem (by rw [← HN.out]; exact hiN)⟩
      by_cases hr : r = (i : Int) + 1
      · have t2 : ((i : Int) + 1 == r) = true := by rw [beq_iff_eq]; exact hr.symm
        obtain ⟨_, b, off, rfl, hc⟩ := HI.out i z hz
        have HR := Lib.hid (at_step hz hr)
        clear hr
        go_wp2
        go_ret
        exact ⟨by rw [HR.out]; rfl, rfl⟩
      · have t2 : ((i : Int) + 1 == r) = false := by rw [beq_eq_false_iff_ne]; exact fun h => hr h.symm
        have HJ2 := Lib.hid (show ∀ j : Nat, j < i + 1 → r ≠ (j : Int) + 1 from fun j hj => by
          by_cases h : j = i
          · rw [h]; exact hr
          · exact HJ.out j (by omega))
        clear hr
        go_wp2
        go_roundg (N - (i + 1))
        case measure => omega
        case rel => exact ⟨i + 1, by omega, by go_num, HJ2, rfl⟩
    · have t1 : decide ((i : Int) < (N : Int)) = false := decide_eq_false (by omega)
      have t1' : decide (i < N) = false := decide_eq_false hiN
      have HR := Lib.hid (show VecMath.at_ l r = 0 from at_none fun j hj => HJ.out j (by rw [← HN.out] at hj; omega))
      go_wp2
      go_ret
      exact ⟨by rw [HR.out]; rfl, rfl⟩
end Go.Proofs.Ytkdjfeaaojecdaa
