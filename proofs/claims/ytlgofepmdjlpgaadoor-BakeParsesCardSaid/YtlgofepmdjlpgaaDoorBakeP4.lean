/-
  The program's right of chapter 14. The conditions: texts of at most 20,000 bytes.
-/
import Derived.Test.YtlgofepmdjlpgaaDoorBakeP3
namespace Go.Proofs.YtlgofepmdjlpgaaDoor
open Go.RowKit TextNat BakeMath

theorem pright_is (n v p : List Nat) (a : Int) (se ht : Bool) (si : Int) : rightT ⟨n, v, p, a, se, ht, si⟩ = (TextMath.token n && v.all TextMath.octet && rightPath p && decide (-1 ≤ a) && decide (a ≤ 1099511627776) && decide (0 ≤ si) && decide (si ≤ 3) && (!decide (si = 3) || se)) := by
  unfold rightT
  cases TextMath.token n <;> cases v.all TextMath.octet <;> cases rightPath p <;> cases decide (-1 ≤ a) <;> cases decide (a ≤ 1099511627776) <;> cases decide (0 ≤ si) <;> cases decide (si ≤ 3) <;> cases se <;> by_cases h : si = 3 <;> simp [h]
set_option maxRecDepth 100000 in
set_option maxHeartbeats 16000000 in
theorem pright (x : CookieV) (w : World) (hs : x.short) :
    Calls Tryd.prog 13 #[x.val] w fun e w' => e = .returned (.bool (rightT x.t)) ∧ Below w.heap.size w w' := by
  obtain ⟨nm, vl, pt, a, se, ht, si⟩ := x
  obtain ⟨hn, hv, hp⟩ := hs
  replace hn : nm.size ≤ 1000 := hn
  replace hv : vl.size ≤ 1000 := hv
  replace hp : pt.size ≤ 1000 := hp
  have HT := Lib.hid (fun w => token_call nm w (by omega))
  have HO := Lib.hid (fun w => octets_call vl w (by omega))
  have HP := Lib.hid (fun w => prightPath pt w (by omega))
  have hR := pright_is (nats nm) (nats vl) (nats pt) a se ht si
  show Calls Tryd.prog 13 #[.agg #[.string nm, .string vl, .string pt, .int .i64 a, .bool se, .bool ht, .int .i64 si]] w fun e w' => e = .returned (.bool (rightT ⟨nats nm, nats vl, nats pt, a, se, ht, si⟩)) ∧ Below w.heap.size w w'
  obtain ⟨R, hRR⟩ : ∃ R, R = rightT ⟨nats nm, nats vl, nats pt, a, se, ht, si⟩ := ⟨_, rfl⟩
  rw [← hRR] at hR ⊢
  obtain ⟨b1, h1⟩ : ∃ b1, b1 = TextMath.token (nats nm) := ⟨_, rfl⟩
  obtain ⟨b2, h2⟩ : ∃ b2, b2 = (nats vl).all TextMath.octet := ⟨_, rfl⟩
  obtain ⟨b3, h3⟩ : ∃ b3, b3 = rightPath (nats pt) := ⟨_, rfl⟩
  rw [← h1] at HT hR
  rw [← h2] at HO hR
  rw [← h3] at HP hR
  have HR := Lib.hid hR
  clear hR hRR h1 h2 h3 hn hv hp
  cases b1 with
  | false =>
    have HW := Lib.hid (show R = false by rw [HR.out]; simp [*])
    clear HR
    have HB := Lib.hid ((Below.refl w.heap.size w).alloc (Nat.le_refl _) (.cells #[.string nm, .string vl, .string pt, .int .i64 a, .bool se, .bool ht, .int .i64 si] 23))
    go_enter Tryd.func13, Tryd.ntmps13
    go_wp2_with (first
      | (go_at_call 29; refine (HT.out _).mono ?_; rintro e w2 ⟨rfl, hw⟩; rw [hw]; clear hw))
    go_ret
    exact ⟨by rw [HW.out]; rfl, HB.out⟩
  | true =>
  cases b2 with
  | false =>
    have HW := Lib.hid (show R = false by rw [HR.out]; simp [*])
    clear HR
    have HB := Lib.hid ((Below.refl w.heap.size w).alloc (Nat.le_refl _) (.cells #[.string nm, .string vl, .string pt, .int .i64 a, .bool se, .bool ht, .int .i64 si] 23))
    go_enter Tryd.func13, Tryd.ntmps13
    go_wp2_with (first
      | (go_at_call 29; refine (HT.out _).mono ?_; rintro e w2 ⟨rfl, hw⟩; rw [hw]; clear hw)
      | (go_at_call 30; refine (HO.out _).mono ?_; rintro e w2 ⟨rfl, hw⟩; rw [hw]; clear hw))
    go_ret
    exact ⟨by rw [HW.out]; rfl, HB.out⟩
  | true =>
  cases b3 with
  | false =>
    have HW := Lib.hid (show R = false by rw [HR.out]; simp [*])
    clear HR
    have HB := Lib.hid ((Below.refl w.heap.size w).alloc (Nat.le_refl _) (.cells #[.string nm, .string vl, .string pt, .int .i64 a, .bool se, .bool ht, .int .i64 si] 23))
    go_enter Tryd.func13, Tryd.ntmps13
    go_wp2_with (first
      | (go_at_call 29; refine (HT.out _).mono ?_; rintro e w2 ⟨rfl, hw⟩; rw [hw]; clear hw)
      | (go_at_call 30; refine (HO.out _).mono ?_; rintro e w2 ⟨rfl, hw⟩; rw [hw]; clear hw)
      | (go_at_call 31; refine (HP.out _).mono ?_; rintro e w2 ⟨rfl, hw⟩; rw [hw]; clear hw))
    go_ret
    exact ⟨by rw [HW.out]; rfl, HB.out⟩
  | true =>
  by_cases k0 : -1 ≤ a
  case neg =>
    have d0 : decide (-1 ≤ a) = false := decide_eq_false k0
    have HW := Lib.hid (show R = false by rw [HR.out]; simp [*])
    clear HR
    have HB := Lib.hid ((Below.refl w.heap.size w).alloc (Nat.le_refl _) (.cells #[.string nm, .string vl, .string pt, .int .i64 a, .bool se, .bool ht, .int .i64 si] 23))
    go_enter Tryd.func13, Tryd.ntmps13
    go_wp2_with (first
      | (go_at_call 29; refine (HT.out _).mono ?_; rintro e w2 ⟨rfl, hw⟩; rw [hw]; clear hw)
      | (go_at_call 30; refine (HO.out _).mono ?_; rintro e w2 ⟨rfl, hw⟩; rw [hw]; clear hw)
      | (go_at_call 31; refine (HP.out _).mono ?_; rintro e w2 ⟨rfl, hw⟩; rw [hw]; clear hw))
    go_ret
    exact ⟨by rw [HW.out]; rfl, HB.out⟩
  have d0 : decide (-1 ≤ a) = true := decide_eq_true k0
  by_cases k1 : a ≤ 1099511627776
  case neg =>
    have d1 : decide (a ≤ 1099511627776) = false := decide_eq_false k1
    have HW := Lib.hid (show R = false by rw [HR.out]; simp [*])
    clear HR
    have HB := Lib.hid ((Below.refl w.heap.size w).alloc (Nat.le_refl _) (.cells #[.string nm, .string vl, .string pt, .int .i64 a, .bool se, .bool ht, .int .i64 si] 23))
    go_enter Tryd.func13, Tryd.ntmps13
    go_wp2_with (first
      | (go_at_call 29; refine (HT.out _).mono ?_; rintro e w2 ⟨rfl, hw⟩; rw [hw]; clear hw)
      | (go_at_call 30; refine (HO.out _).mono ?_; rintro e w2 ⟨rfl, hw⟩; rw [hw]; clear hw)
      | (go_at_call 31; refine (HP.out _).mono ?_; rintro e w2 ⟨rfl, hw⟩; rw [hw]; clear hw))
    go_ret
    exact ⟨by rw [HW.out]; rfl, HB.out⟩
  have d1 : decide (a ≤ 1099511627776) = true := decide_eq_true k1
  by_cases k2 : 0 ≤ si
  case neg =>
    have d2 : decide (0 ≤ si) = false := decide_eq_false k2
    have HW := Lib.hid (show R = false by rw [HR.out]; simp [*])
    clear HR
    have HB := Lib.hid ((Below.refl w.heap.size w).alloc (Nat.le_refl _) (.cells #[.string nm, .string vl, .string pt, .int .i64 a, .bool se, .bool ht, .int .i64 si] 23))
    go_enter Tryd.func13, Tryd.ntmps13
    go_wp2_with (first
      | (go_at_call 29; refine (HT.out _).mono ?_; rintro e w2 ⟨rfl, hw⟩; rw [hw]; clear hw)
      | (go_at_call 30; refine (HO.out _).mono ?_; rintro e w2 ⟨rfl, hw⟩; rw [hw]; clear hw)
      | (go_at_call 31; refine (HP.out _).mono ?_; rintro e w2 ⟨rfl, hw⟩; rw [hw]; clear hw))
    go_ret
    exact ⟨by rw [HW.out]; rfl, HB.out⟩
  have d2 : decide (0 ≤ si) = true := decide_eq_true k2
  by_cases k3 : si ≤ 3
  case neg =>
    have d3 : decide (si ≤ 3) = false := decide_eq_false k3
    have HW := Lib.hid (show R = false by rw [HR.out]; simp [*])
    clear HR
    have HB := Lib.hid ((Below.refl w.heap.size w).alloc (Nat.le_refl _) (.cells #[.string nm, .string vl, .string pt, .int .i64 a, .bool se, .bool ht, .int .i64 si] 23))
    go_enter Tryd.func13, Tryd.ntmps13
    go_wp2_with (first
      | (go_at_call 29; refine (HT.out _).mono ?_; rintro e w2 ⟨rfl, hw⟩; rw [hw]; clear hw)
      | (go_at_call 30; refine (HO.out _).mono ?_; rintro e w2 ⟨rfl, hw⟩; rw [hw]; clear hw)
      | (go_at_call 31; refine (HP.out _).mono ?_; rintro e w2 ⟨rfl, hw⟩; rw [hw]; clear hw))
    go_ret
    exact ⟨by rw [HW.out]; rfl, HB.out⟩
  have d3 : decide (si ≤ 3) = true := decide_eq_true k3
  by_cases k4 : si = 3
  case pos =>
    subst k4
    have HW := Lib.hid (show R = se by rw [HR.out]; simp [*])
    clear HR
    have HB := Lib.hid ((Below.refl w.heap.size w).alloc (Nat.le_refl _) (.cells #[.string nm, .string vl, .string pt, .int .i64 a, .bool se, .bool ht, .int .i64 3] 23))
    go_enter Tryd.func13, Tryd.ntmps13
    go_wp2_with (first
      | (go_at_call 29; refine (HT.out _).mono ?_; rintro e w2 ⟨rfl, hw⟩; rw [hw]; clear hw)
      | (go_at_call 30; refine (HO.out _).mono ?_; rintro e w2 ⟨rfl, hw⟩; rw [hw]; clear hw)
      | (go_at_call 31; refine (HP.out _).mono ?_; rintro e w2 ⟨rfl, hw⟩; rw [hw]; clear hw))
    go_ret
    exact ⟨by rw [HW.out]; rfl, HB.out⟩
  have d4 : decide (si = 3) = false := decide_eq_false k4
  have d5 : (si != 3) = true := by rw [bne_iff_ne]; exact k4
  have HW := Lib.hid (show R = true by rw [HR.out]; simp [*])
  clear HR
  have HB := Lib.hid ((Below.refl w.heap.size w).alloc (Nat.le_refl _) (.cells #[.string nm, .string vl, .string pt, .int .i64 a, .bool se, .bool ht, .int .i64 si] 23))
  go_enter Tryd.func13, Tryd.ntmps13
  go_wp2_with (first
    | (go_at_call 29; refine (HT.out _).mono ?_; rintro e w2 ⟨rfl, hw⟩; rw [hw]; clear hw)
    | (go_at_call 30; refine (HO.out _).mono ?_; rintro e w2 ⟨rfl, hw⟩; rw [hw]; clear hw)
    | (go_at_call 31; refine (HP.out _).mono ?_; rintro e w2 ⟨rfl, hw⟩; rw [hw]; clear hw))
  go_ret
  exact ⟨by rw [HW.out]; rfl, HB.out⟩
end Go.Proofs.YtlgofepmdjlpgaaDoor
