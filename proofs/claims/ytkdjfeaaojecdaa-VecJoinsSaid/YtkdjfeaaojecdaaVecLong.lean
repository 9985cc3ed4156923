/-
  Rows of vectors in memory; the contract of the document's own long of chapter 6. The conditions: the vectors' cells.
-/
import Derived.Test.YtkdjfeaaojecdaaVecWith
namespace VecMath
theorem longest_take {l : List (List Int)} {i : Nat} {v : List Int} (h : l[i]? = some v) : longest (l.take (i + 1)) = max (longest (l.take i)) v.length := by
  unfold longest
  rw [List.take_add_one, h]
  simp
end VecMath
namespace Go.Proofs.Ytkdjfeaaojecdaa
open Go.RowKit

/-- A vector as a slice. -/
structure Vc where
  p : Option Addr
  l : List Int
  c : Nat
/-- A slice's cells are these vectors. -/
def VecsIn (w : World) (pp : Option Addr) (vs : List Vc) : Prop := ∀ (i : Nat) (v : Vc), vs[i]? = some v → ∃ b off, pp = some ⟨b, off, none⟩ ∧ w.cell? ⟨b, off + i, none⟩ = some (.slice v.p v.l.length v.c) ∧ Ints w v.p v.l
theorem VecsIn.grown {w w' : World} {pp : Option Addr} {vs : List Vc} (h : VecsIn w pp vs) (hb : Below w.heap.size w w') : VecsIn w' pp vs := fun i v hv => by
  obtain ⟨b, off, h1, h2, h3⟩ := h i v hv
  exact ⟨b, off, h1, (hb.cell (p := ⟨b, off + i, none⟩) (World.block_lt_of_cell? w _ h2)).trans h2, h3.grown hb⟩
def lists (vs : List Vc) : List (List Int) := vs.map Vc.l
theorem lists_at {vs : List Vc} {i : Nat} {v : Vc} (h : vs[i]? = some v) : (lists vs)[i]? = some v.l := by unfold lists; rw [List.getElem?_map, h]; rfl
theorem lists_len (vs : List Vc) : (lists vs).length = vs.length := List.length_map ..
set_option maxRecDepth 100000 in
set_option maxHeartbeats 4000000 in
theorem refLong (pp : Option Addr) (c : Nat) (vs : List Vc) (w : World) (h : VecsIn w pp vs) (hl : vs.length ≤ 9223372036854775807) (hm : ∀ v ∈ vs, v.l.length ≤ 9223372036854775807) :
    Calls Try.prog 28 #[.slice pp vs.length c] w fun e w' => e = .returned (.int .i64 ((VecMath.longest (lists vs) : Nat) : Int)) ∧ w' = w := by
  obtain ⟨N, hN⟩ : ∃ N, N = vs.length := ⟨_, rfl⟩
  have HI := Lib.hid h
  have HN := Lib.hid hN
  have HM := Lib.hid hm
  rw [← hN] at hl ⊢
  clear h hN hm
  go_enter Try.func28, Try.ntmps28
  go_wp2_with fail
  go_loopg [3, 4] N (fun gh s3 s4 wx => ∃ i : Nat, i + gh = N ∧ s4 = .int .i64 (i : Int) ∧ s3 = .int .i64 ((VecMath.longest ((lists vs).take i) : Nat) : Int) ∧ wx = w)
  case atStart => exact ⟨0, by omega, by go_num, by simp [VecMath.longest], rfl⟩
  case round =>
    obtain ⟨i, hi, rfl, rfl, rfl⟩ := hrel
    obtain ⟨m, hm⟩ : ∃ m, m = VecMath.longest ((lists vs).take i) := ⟨_, rfl⟩
    rw [← hm]
    have HMx := Lib.hid hm
    clear hm
    by_cases hiN : i < N
    · have t1 : decide ((i : Int) < (N : Int)) = true := decide_eq_true (by omega)
      have t1' : decide (i < N) = true := decide_eq_true hiN
      obtain ⟨v, hv⟩ : ∃ v, vs[i]? = some v := ⟨_, List.getElem?_eq_getElem (by rw [← HN.out]; exact hiN)⟩
      obtain ⟨b, off, rfl, hcv, _⟩ := HI.out i v hv
      have hvm := HM.out v (List.mem_of_getElem? hv)
      obtain ⟨K, hK⟩ : ∃ K, K = v.l.length := ⟨_, rfl⟩
      rw [← hK] at hcv hvm
      have HS := Lib.hid (show VecMath.longest ((lists vs).take (i + 1)) = max m K by rw [VecMath.longest_take (lists_at hv), ← HMx.out, hK])
      clear hv hK
      by_cases hmK : m < K
      · have t2 : decide ((m : Int) < (K : Int)) = true := decide_eq_true (by omega)
        have t2' : decide (m < K) = true := decide_eq_true hmK
        go_wp2
        go_roundg (N - (i + 1))
        case measure => omega
        case rel => exact ⟨i + 1, by omega, by go_num, by rw [HS.out, Nat.max_eq_right (by omega)], rfl⟩
      · have t2 : decide ((m : Int) < (K : Int)) = false := decide_eq_false (by omega)
        have t2' : decide (m < K) = false := decide_eq_false hmK
        go_wp2
        go_roundg (N - (i + 1))
        case measure => omega
        case rel => exact ⟨i + 1, by omega, by go_num, by rw [HS.out, Nat.max_eq_left (by omega)], rfl⟩
    · have t1 : decide ((i : Int) < (N : Int)) = false := decide_eq_false (by omega)
      have t1' : decide (i < N) = false := decide_eq_false hiN
      have HE := Lib.hid (show m = VecMath.longest (lists vs) by rw [HMx.out, List.take_of_length_le (by rw [lists_len, ← HN.out]; omega)])
      go_wp2
      go_ret
      exact ⟨by rw [← HE.out]; rfl, rfl⟩
end Go.Proofs.Ytkdjfeaaojecdaa
