/-
  The contract of the program's rightClaims of chapter 5. The conditions: the vector's cells.
-/
import Derived.Test.YtpmhfoleafjlbaaWireRight
namespace Go.Proofs.Ytpmhfoleafjlbaa
open Go.RowKit TextNat

/-- Claims as a value: their vector lies in memory. -/
structure ClaimsV where
  session : ByteArray
  user : ByteArray
  epoch : Int
  issue : Int
  key : Int
  cp : Option Addr
  cl : List Int
  cc : Nat
def ClaimsV.val (x : ClaimsV) : Value := .agg #[.string x.session, .string x.user, .int .i64 x.epoch, .int .i64 x.issue, .int .i64 x.key, .slice x.cp x.cl.length x.cc]
def ClaimsV.right (x : ClaimsV) : Bool :=
  inr (x.session.size : Int) 1 64 && (inr (x.user.size : Int) 1 32 && (inr x.epoch 0 1099511627776 && (inr x.issue 0 1099511627776 && (inr x.key 0 1099511627776 && WireMath.trimmed x.cl WireMath.big))))
set_option maxRecDepth 100000 in
set_option maxHeartbeats 4000000 in
theorem rightClaims_ok (x : ClaimsV) (w : World) (hz : Ints w x.cp x.cl) (hl : x.cl.length ≤ 9223372036854775807) :
    Calls Try.prog 55 #[x.val] w fun e w' => e = .returned (.bool x.right) ∧ Below w.heap.size w w' := by
  have HV := Lib.hid (fun w1 (h : Below w.heap.size w w1) => rightVector_ok x.cp x.cc x.cl w1 (hz.grown h) hl)
  have HW := Lib.hid (fun n a b w => within_ok n a b w)
  obtain ⟨session, user, epoch, issue, key, cp, cl, cc⟩ := x
  simp only [ClaimsV.val, ClaimsV.right] at *
  clear hz hl
  cases b1 : (inr (session.size : Int) 1 64) with
  | false =>
    go_enter Try.func55, Try.ntmps55
    go_wp2_with (first
      | (go_at_call 59; refine (HW.out _ _ _ _).mono ?_; rintro e w3 ⟨rfl, rfl⟩)
      | (go_at_call 60; refine (HV.out _ ((Below.refl _ _).alloc (Nat.le_refl _) _)).mono ?_; rintro e w3 ⟨rfl, rfl⟩))
    go_ret
    exact ⟨rfl, (Below.refl _ _).alloc (Nat.le_refl _) _⟩
  | true =>
    cases b2 : (inr (user.size : Int) 1 32) with
    | false =>
      go_enter Try.func55, Try.ntmps55
      go_wp2_with (first
        | (go_at_call 59; refine (HW.out _ _ _ _).mono ?_; rintro e w3 ⟨rfl, rfl⟩)
        | (go_at_call 60; refine (HV.out _ ((Below.refl _ _).alloc (Nat.le_refl _) _)).mono ?_; rintro e w3 ⟨rfl, rfl⟩))
      go_ret
      exact ⟨rfl, (Below.refl _ _).alloc (Nat.le_refl _) _⟩
    | true =>
      cases b3 : (inr epoch 0 1099511627776) with
      | false =>
        go_enter Try.func55, Try.ntmps55
        go_wp2_with (first
          | (go_at_call 59; refine (HW.out _ _ _ _).mono ?_; rintro e w3 ⟨rfl, rfl⟩)
          | (go_at_call 60; refine (HV.out _ ((Below.refl _ _).alloc (Nat.le_refl _) _)).mono ?_; rintro e w3 ⟨rfl, rfl⟩))
        go_ret
        exact ⟨rfl, (Below.refl _ _).alloc (Nat.le_refl _) _⟩
      | true =>
        cases b4 : (inr issue 0 1099511627776) with
        | false =>
          go_enter Try.func55, Try.ntmps55
          go_wp2_with (first
            | (go_at_call 59; refine (HW.out _ _ _ _).mono ?_; rintro e w3 ⟨rfl, rfl⟩)
            | (go_at_call 60; refine (HV.out _ ((Below.refl _ _).alloc (Nat.le_refl _) _)).mono ?_; rintro e w3 ⟨rfl, rfl⟩))
          go_ret
          exact ⟨rfl, (Below.refl _ _).alloc (Nat.le_refl _) _⟩
        | true =>
          cases b5 : (inr key 0 1099511627776) with
          | false =>
            go_enter Try.func55, Try.ntmps55
            go_wp2_with (first
              | (go_at_call 59; refine (HW.out _ _ _ _).mono ?_; rintro e w3 ⟨rfl, rfl⟩)
              | (go_at_call 60; refine (HV.out _ ((Below.refl _ _).alloc (Nat.le_refl _) _)).mono ?_; rintro e w3 ⟨rfl, rfl⟩))
            go_ret
            exact ⟨rfl, (Below.refl _ _).alloc (Nat.le_refl _) _⟩
          | true =>
            go_enter Try.func55, Try.ntmps55
            go_wp2_with (first
              | (go_at_call 59; refine (HW.out _ _ _ _).mono ?_; rintro e w3 ⟨rfl, rfl⟩)
              | (go_at_call 60; refine (HV.out _ ((Below.refl _ _).alloc (Nat.le_refl _) _)).mono ?_; rintro e w3 ⟨rfl, rfl⟩))
            go_ret
            exact ⟨rfl, (Below.refl _ _).alloc (Nat.le_refl _) _⟩
end Go.Proofs.Ytpmhfoleafjlbaa
