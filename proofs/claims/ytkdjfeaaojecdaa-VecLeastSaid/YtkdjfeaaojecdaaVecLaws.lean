/-
  The contracts of the program's functions of chapter 6, as sentences that its laws start from; the contract of the laws' helper great. No conditions but those typed.
-/
import Derived.Test.YtkdjfeaaojecdaaVecJoin
import Derived.Test.YtkdjfeaaojecdaaVecCovers
namespace Go.Proofs.Ytkdjfeaaojecdaa
open Go.RowKit

def AtOk : Prop := ∀ (p : Option Addr) (c : Nat) (l : List Int) (r : Int) (w : World), Ints w p l → l.length ≤ 10000 → -9223372036854775808 ≤ r ∧ r ≤ 9223372036854775807 →
  Calls Try.prog 11 #[.slice p l.length c, .int .i64 r] w fun e w' => e = .returned (.int .i64 (VecMath.at_ l r)) ∧ Below w.heap.size w w'
def TrimOk : Prop := ∀ (p : Option Addr) (c : Nat) (l : List Int) (w : World), Ints w p l → l.length ≤ 10000 → l.length ≤ c →
  Calls Try.prog 14 #[.slice p l.length c] w fun e w' => (∃ v, e = .returned v ∧ NewVec w.heap.size w' v (VecMath.trim l)) ∧ Below w.heap.size w w'
def WithOk : Prop := ∀ (p : Option Addr) (c : Nat) (l : List Int) (r n : Int) (w : World), Ints w p l → l.length ≤ 10000 → l.length ≤ c → -9223372036854775808 ≤ r ∧ r ≤ 9223372036854775807 → -9223372036854775808 ≤ n ∧ n ≤ 9223372036854775807 →
  Calls Try.prog 10 #[.slice p l.length c, .int .i64 r, .int .i64 n] w fun e w' => (∃ v, e = .returned v ∧ NewVec w.heap.size w' v (VecMath.with_ l r n)) ∧ Below w.heap.size w w'
def JoinOk : Prop := ∀ (pp : Option Addr) (c : Nat) (vs : List Vc) (w : World), VecsIn w pp vs → vs.length ≤ 100 → (∀ v ∈ vs, v.l.length ≤ 10000) → (∀ v ∈ vs, v.l.length ≤ v.c) →
  Calls Try.prog 17 #[.slice pp vs.length c] w fun e w' => (∃ v, e = .returned v ∧ NewVec w.heap.size w' v (VecMath.join (lists vs))) ∧ Below w.heap.size w w'
def LeastOk : Prop := ∀ (pp : Option Addr) (c : Nat) (vs : List Vc) (w : World), VecsIn w pp vs → vs.length ≤ 100 → (∀ v ∈ vs, v.l.length ≤ 10000) → (∀ v ∈ vs, v.l.length ≤ v.c) →
  Calls Try.prog 20 #[.slice pp vs.length c] w fun e w' => (∃ v, e = .returned v ∧ NewVec w.heap.size w' v (VecMath.least (lists vs))) ∧ Below w.heap.size w w'
def CoversOk : Prop := ∀ (pa pb : Option Addr) (ca cb : Nat) (a b : List Int) (w : World), Ints w pa a → Ints w pb b → a.length ≤ 10000 → b.length ≤ 10000 →
  Calls Try.prog 24 #[.slice pa a.length ca, .slice pb b.length cb] w fun e w' => e = .returned (.bool (VecMath.covers a b)) ∧ Below w.heap.size w w'
def RelOk : Prop := ∀ (pa pb : Option Addr) (ca cb : Nat) (a b : List Int) (w : World), Ints w pa a → Ints w pb b → a.length ≤ 10000 → b.length ≤ 10000 →
  Calls Try.prog 22 #[.slice pa a.length ca, .slice pb b.length cb] w fun e w' => e = .returned (.int .i64 (VecMath.rel a b)) ∧ Below w.heap.size w w'

/-- More than is played? -/
def greatB (vs : List Vc) : Bool := decide (20 < vs.length) || vs.any fun v => decide (100 < v.l.length)
theorem great_take {vs : List Vc} {i : Nat} {v : Vc} (h : vs[i]? = some v) (hn : ∀ u ∈ vs.take i, ¬ 100 < u.l.length) (hv : ¬ 100 < v.l.length) : ∀ u ∈ vs.take (i + 1), ¬ 100 < u.l.length := fun u hu => by
  rw [List.take_add_one, h] at hu
  rcases List.mem_append.1 hu with hu | hu
  · exact hn u hu
  · obtain rfl : u = v := by simpa using hu
    exact hv
set_option maxRecDepth 100000 in
set_option maxHeartbeats 4000000 in
theorem great_ok (pp : Option Addr) (c : Nat) (vs : List Vc) (w : World) (h : VecsIn w pp vs) (hl : vs.length ≤ 9223372036854775807) (hm : ∀ v ∈ vs, v.l.length ≤ 9223372036854775807) :
    Calls Try.prog 9 #[.slice pp vs.length c] w fun e w' => e = .returned (.bool (greatB vs)) ∧ w' = w := by
  obtain ⟨N, hN⟩ : ∃ N, N = vs.length := ⟨_, rfl⟩
  have HI := Lib.hid h
  have HN := Lib.hid hN
  have HM := Lib.hid hm
  rw [← hN] at hl ⊢
  clear h hN hm
  by_cases h20 : 20 < N
  · have t1 : decide ((20 : Int) < (N : Int)) = true := decide_eq_true (by omega)
    have t1' : decide (20 < N) = true := decide_eq_true h20
    have HE := Lib.hid (show greatB vs = true by unfold greatB; rw [← HN.out, t1']; rfl)
    go_enter Try.func9, Try.ntmps9
    go_wp2
    go_ret
    exact ⟨by rw [HE.out]; rfl, rfl⟩
  · have t1 : decide ((20 : Int) < (N : Int)) = false := decide_eq_false (by omega)
    have t1' : decide (20 < N) = false := decide_eq_false h20
    go_enter Try.func9, Try.ntmps9
    go_wp2_with fail
    have T1 := Lib.hid t1'
    clear t1 t1'
    go_loopg [9] N (fun gh s5 wx => ∃ i : Nat, i + gh = N ∧ s5 = .int .i64 (i : Int) ∧ wx = w ∧ Hid (∀ u ∈ vs.take i, ¬ 100 < u.l.length))
    case atStart => exact ⟨0, by omega, by go_num, rfl, Lib.hid (fun u hu => by simp at hu)⟩
    case round =>
      obtain ⟨i, hi, rfl, hwx, HS⟩ := hrel
      subst hwx
      by_cases hiN : i < N
      · have t2 : decide ((i : Int) < (N : Int)) = true := decide_eq_true (by omega)
        have t2' : decide (i < N) = true := decide_eq_true hiN
        obtain ⟨v, hv⟩ : ∃ v, vs[i]? = some v := ⟨_, List.getElem?_eq_getElem (by rw [← HN.out]; exact hiN)⟩
        obtain ⟨b, off, rfl, hcv, _⟩ := HI.out i v hv
        have hvm := HM.out v (List.mem_of_getElem? hv)
        by_cases h1 : 100 < v.l.length
        · have HE := Lib.hid (show greatB vs = true by
            unfold greatB
            rw [Bool.or_eq_true]
            exact Or.inr (List.any_eq_true.2 ⟨v, List.mem_of_getElem? hv, decide_eq_true h1⟩))
          have t3 : decide ((100 : Int) < (v.l.length : Int)) = true := decide_eq_true (by omega)
          have t3' : decide (100 < v.l.length) = true := decide_eq_true h1
          clear hv
          go_wp2
          go_ret
          exact ⟨by rw [HE.out]; rfl, rfl⟩
        · have HS2 := Lib.hid (great_take hv HS.out h1)
          have t3 : decide ((100 : Int) < (v.l.length : Int)) = false := decide_eq_false (by omega)
          have t3' : decide (100 < v.l.length) = false := decide_eq_false h1
          clear hv
          go_wp2
          go_roundg (N - (i + 1))
          case measure => omega
          case rel => exact ⟨i + 1, by omega, by go_num, rfl, HS2⟩
      · have t2 : decide ((i : Int) < (N : Int)) = false := decide_eq_false (by omega)
        have t2' : decide (i < N) = false := decide_eq_false hiN
        have HE := Lib.hid (show greatB vs = false by
          unfold greatB
          rw [← HN.out, T1.out, Bool.false_or]
          rw [← Bool.not_eq_true]
          intro ha
          obtain ⟨u, hu, h⟩ := List.any_eq_true.1 ha
          exact HS.out u (by rw [List.take_of_length_le (by rw [← HN.out]; omega)]; exact hu) (of_decide_eq_true h))
        go_wp2
        go_ret
        exact ⟨by rw [HE.out]; rfl, rfl⟩
end Go.Proofs.Ytkdjfeaaojecdaa
