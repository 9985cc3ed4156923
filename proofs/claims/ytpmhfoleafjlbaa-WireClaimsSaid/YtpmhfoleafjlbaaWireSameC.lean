/-
  The contract of the document's own SameClaims of chapter 5. The conditions: the vectors' cells.
-/
import Derived.Test.YtpmhfoleafjlbaaWireSame
namespace Go.Proofs.Ytpmhfoleafjlbaa
open Go.RowKit TextNat

/-- Alike, as the document's own answer tells it. -/
def sameC (x y : ClaimsV) : Bool := decide (x.session.toList = y.session.toList ∧ x.user.toList = y.user.toList ∧ x.epoch = y.epoch ∧ x.issue = y.issue ∧ x.key = y.key ∧ x.cl = y.cl)
set_option maxRecDepth 100000 in
set_option maxHeartbeats 4000000 in
theorem sameClaims_ok (x y : ClaimsV) (w : World) (hx : Ints w x.cp x.cl) (hy : Ints w y.cp y.cl) (hl : x.cl.length ≤ 9223372036854775807) (hl2 : y.cl.length ≤ 9223372036854775807) :
    Calls Try.prog 31 #[x.val, y.val] w fun e w' => e = .returned (.bool (sameC x y)) ∧ Below w.heap.size w w' := by
  have HV := Lib.hid (fun w1 (h : Below w.heap.size w w1) => sameVec_ok x.cp y.cp x.cc y.cc x.cl y.cl w1 (hx.grown h) (hy.grown h) hl hl2)
  obtain ⟨se1, us1, e1, i1, k1, cp1, cl1, cc1⟩ := x
  obtain ⟨se2, us2, e2, i2, k2, cp2, cl2, cc2⟩ := y
  simp only [ClaimsV.val] at *
  clear hx hy hl hl2
  by_cases hd : cl1 = cl2
  · have hd' : (cl1 == cl2) = true := by rw [beq_iff_eq]; exact hd
    rw [hd'] at HV
    clear hd'
    have HD := Lib.hid hd
    clear hd
    go_enter Try.func31, Try.ntmps31
    go_wp2_with (go_at_call 16; refine (HV.out _ (((Below.refl _ _).alloc (Nat.le_refl _) _).alloc (by simp) _)).mono ?_; rintro e w3 ⟨rfl, nn, rfl⟩)
    all_goals
      have hD := HD.out
      clear HD HV
      go_ret
      refine ⟨?_, ?_⟩
      · simp [sameC, *]
      · first
          | exact ((Below.refl _ _).alloc (Nat.le_refl _) _).alloc (by simp) _
          | exact Below.trans (((Below.refl _ _).alloc (Nat.le_refl _) _).alloc (by simp) _) (below_drewN _ _ _)
  · have hd' : (cl1 == cl2) = false := by rw [beq_eq_false_iff_ne]; exact hd
    rw [hd'] at HV
    clear hd'
    have HD := Lib.hid hd
    clear hd
    go_enter Try.func31, Try.ntmps31
    go_wp2_with (go_at_call 16; refine (HV.out _ (((Below.refl _ _).alloc (Nat.le_refl _) _).alloc (by simp) _)).mono ?_; rintro e w3 ⟨rfl, nn, rfl⟩)
    all_goals
      have hD := HD.out
      clear HD HV
      go_ret
      refine ⟨?_, ?_⟩
      · simp [sameC, *]
      · first
          | exact ((Below.refl _ _).alloc (Nat.le_refl _) _).alloc (by simp) _
          | exact Below.trans (((Below.refl _ _).alloc (Nat.le_refl _) _).alloc (by simp) _) (below_drewN _ _ _)
end Go.Proofs.Ytpmhfoleafjlbaa
