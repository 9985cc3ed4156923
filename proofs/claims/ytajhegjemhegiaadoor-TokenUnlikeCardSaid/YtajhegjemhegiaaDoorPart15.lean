/-
  Texts of one claim, merged.
  WireInr: Between two numbers; what a trimmed vector is. No program is run here.
  WireRight: The contracts of the program's within, rightVector, rightWrite, rightClaims of chapter 5. The conditions: vectors' cells.
  WireRightC: The contract of the program's rightClaims of chapter 5. The conditions: the vector's cells.
-/
import Derived.Test.YtajhegjemhegiaaDoorPart14
namespace Go.Proofs.YtajhegjemhegiaaDoor
open Go.RowKit TextNat

def inr (n a b : Int) : Bool := decide (a ≤ n) && decide (n ≤ b)
theorem inr_true {n a b : Int} (h : a ≤ n ∧ n ≤ b) : inr n a b = true := by unfold inr; rw [decide_eq_true h.1, decide_eq_true h.2]; rfl
theorem inr_iff {n a b : Int} : inr n a b = true ↔ a ≤ n ∧ n ≤ b := by unfold inr; rw [Bool.and_eq_true, decide_eq_true_eq, decide_eq_true_eq]
theorem trimmed_whole {zs : List Int} {most : Int} : WireMath.trimmed zs most = (decide (zs.length ≤ 16) && zs.all (fun n => inr n 0 most) && whole_ zs) := rfl
end Go.Proofs.YtajhegjemhegiaaDoor
namespace Go.Proofs.YtajhegjemhegiaaDoor
open Go.RowKit TextNat

theorem within_ok (n a b : Int) (w : World) : Calls Tryd.prog 63 #[.int .i64 n, .int .i64 a, .int .i64 b] w fun e w' => e = .returned (.bool (inr n a b)) ∧ w' = w := by
  by_cases h1 : a ≤ n
  · by_cases h2 : n ≤ b
    · rw [inr_true ⟨h1, h2⟩]
      have t1 : decide (a ≤ n) = true := decide_eq_true h1
      have t2 : decide (n ≤ b) = true := decide_eq_true h2
      go_enter Tryd.func63, Tryd.ntmps63
      go_wp2
      go_ret
      exact ⟨rfl, rfl⟩
    · have hf : inr n a b = false := by unfold inr; rw [decide_eq_false h2, Bool.and_false]
      rw [hf]
      have t1 : decide (a ≤ n) = true := decide_eq_true h1
      have t2 : decide (n ≤ b) = false := decide_eq_false h2
      go_enter Tryd.func63, Tryd.ntmps63
      go_wp2
      go_ret
      exact ⟨rfl, rfl⟩
  · have hf : inr n a b = false := by unfold inr; rw [decide_eq_false h1, Bool.false_and]
    rw [hf]
    have t1 : decide (a ≤ n) = false := decide_eq_false h1
    go_enter Tryd.func63, Tryd.ntmps63
    go_wp2
    go_ret
    exact ⟨rfl, rfl⟩


set_option maxRecDepth 100000 in
set_option maxHeartbeats 4000000 in
theorem rightVector_ok (pp : Option Addr) (cap : Nat) (zs : List Int) (w : World) (hz : Ints w pp zs) (hl : zs.length ≤ 9223372036854775807) :
    Calls Tryd.prog 64 #[.slice pp zs.length cap] w fun e w' => e = .returned (.bool (WireMath.trimmed zs WireMath.big)) ∧ w' = w := by
  have HT := Lib.hid (trimmed_ok pp cap zs w hz hl)
  have HW := Lib.hid (fun n w => within_ok n 0 1099511627776 w)
  obtain ⟨N, hN⟩ : ∃ N, N = zs.length := ⟨_, rfl⟩
  have HN := Lib.hid hN
  have HZ := Lib.hid hz
  by_cases h16 : N ≤ 16
  · have t1 : decide ((16 : Int) < (N : Int)) = false := decide_eq_false (by omega)
    have t1' : decide (16 < N) = false := decide_eq_false (by omega)
    cases htr : whole_ zs with
    | false =>
      have HF := Lib.hid (show WireMath.trimmed zs WireMath.big = false by rw [trimmed_whole, htr, Bool.and_false])
      rw [htr] at HT
      rw [← hN] at HT ⊢
      clear hz hl hN htr
      go_enter Tryd.func64, Tryd.ntmps64
      go_wp2_with (go_at_call 66; refine HT.out.mono ?_; rintro e w2 ⟨rfl, rfl⟩)
      go_ret
      rw [HF.out]
      exact ⟨rfl, rfl⟩
    | true =>
      have HF := Lib.hid (show WireMath.trimmed zs WireMath.big = zs.all (fun n => inr n 0 1099511627776) by
        rw [trimmed_whole, htr, Bool.and_true, decide_eq_true (by rw [← hN]; exact h16), Bool.true_and]; rfl)
      rw [htr] at HT
      rw [← hN] at HT ⊢
      clear hz hl hN htr
      go_enter Tryd.func64, Tryd.ntmps64
      go_wp2_with (go_at_call 66; refine HT.out.mono ?_; rintro e w2 ⟨rfl, rfl⟩)
      go_loopg [15] N (fun gh s15 wx => ∃ i : Nat, i + gh = N ∧ s15 = .int .i64 (i : Int) ∧ Hid ((zs.take i).all (fun n => inr n 0 1099511627776) = true) ∧ wx = w2)
      case atStart => exact ⟨0, by omega, by go_num, Lib.hid rfl, rfl⟩
      case round =>
        obtain ⟨i, hi, rfl, hall, rfl⟩ := hrel
        by_cases hiN : i < N
        · have t2 : decide ((i : Int) < (N : Int)) = true := decide_eq_true (by omega)
          have t2' : decide (i < N) = true := decide_eq_true hiN
          obtain ⟨z, hzz⟩ : ∃ z, zs[i]? = some z := ⟨_, List.getElem?_eq_getElem (by rw [← HN.out]; exact hiN)⟩
          obtain ⟨hr, b, off, rfl, hc⟩ := HZ.out _ _ hzz
          have htk : zs.take (i + 1) = zs.take i ++ [z] := by rw [List.take_add_one, hzz]; rfl
          cases hb : inr z 0 1099511627776 with
          | false =>
            have HFF := Lib.hid (show zs.all (fun n => inr n 0 1099511627776) = false by
              rw [Bool.eq_false_iff]
              intro ha
              rw [List.all_eq_true] at ha
              rw [ha z (List.mem_of_getElem? hzz)] at hb
              cases hb)
            clear hzz htk hall
            go_wp2_with (go_at_call 63; refine (HW.out _ _).mono ?_; rintro e w3 ⟨rfl, rfl⟩)
            go_ret
            rw [HF.out, HFF.out]
            exact ⟨rfl, rfl⟩
          | true =>
            have HA2 := Lib.hid (show (zs.take (i + 1)).all (fun n => inr n 0 1099511627776) = true by rw [htk, List.all_append, hall.out]; simp [hb])
            clear hzz htk hall
            go_wp2_with (go_at_call 63; refine (HW.out _ _).mono ?_; rintro e w3 ⟨rfl, rfl⟩)
            go_roundg (N - (i + 1))
            case measure => omega
            case rel => exact ⟨i + 1, by omega, by go_num, HA2, rfl⟩
        · obtain rfl : i = N := by omega
          obtain rfl : gk = 0 := by omega
          have t2' : decide (i < i) = false := decide_eq_false (by omega)
          have HFF := Lib.hid (show zs.all (fun n => inr n 0 1099511627776) = true by
            have := hall.out
            rwa [HN.out, List.take_length] at this)
          clear hall
          go_wp2
          go_ret
          rw [HF.out, HFF.out]
          exact ⟨rfl, rfl⟩
  · have t1 : decide ((16 : Int) < (N : Int)) = true := decide_eq_true (by omega)
    have t1' : decide (16 < N) = true := decide_eq_true (by omega)
    have HF := Lib.hid (show WireMath.trimmed zs WireMath.big = false from WireMath.trimmed_long (by omega))
    rw [← hN] at HT ⊢
    clear hz hl hN h16
    go_enter Tryd.func64, Tryd.ntmps64
    go_wp2
    go_ret
    rw [HF.out]
    exact ⟨rfl, rfl⟩

/-- A write as a value: its vector lies in memory. -/
structure WriteV where
  region : Int
  number : Int
  time : Int
  sreg : Int
  dp : Option Addr
  dl : List Int
  dc : Nat
  session : ByteArray
  key : ByteArray
  value : ByteArray
  gone : Bool
  life : Int
def WriteV.val (x : WriteV) : Value := .agg #[.int .i64 x.region, .int .i64 x.number, .int .i64 x.time, .int .i64 x.sreg, .slice x.dp x.dl.length x.dc, .string x.session, .string x.key, .string x.value, .bool x.gone, .int .i64 x.life]
def WriteV.right (x : WriteV) : Bool :=
  inr x.region 1 16 && (inr x.number 1 1099511627776 && (inr x.time 1 1099511627776 && (x.sreg == x.region && (WireMath.trimmed x.dl WireMath.big && (inr (x.session.size : Int) 1 64 && (decide ((x.key.size : Int) ≤ 32) && (decide ((x.value.size : Int) ≤ 128) && ((x.value.toList.isEmpty || !x.gone) && inr x.life 0 1099511627776))))))))
end Go.Proofs.YtajhegjemhegiaaDoor
namespace Go.Proofs.YtajhegjemhegiaaDoor
open Go.RowKit TextNat

/-- Claims as a value: their vector lies in memory. -/
structure ClaimsV where
  session : ByteArray
  user : ByteArray
  epoch : Int
  issue : Int
  key : Int
  cp : Option Addr
  cl : List Int
  cc : Nat
def ClaimsV.val (x : ClaimsV) : Value := .agg #[.string x.session, .string x.user, .int .i64 x.epoch, .int .i64 x.issue, .int .i64 x.key, .slice x.cp x.cl.length x.cc]
def ClaimsV.right (x : ClaimsV) : Bool :=
  inr (x.session.size : Int) 1 64 && (inr (x.user.size : Int) 1 32 && (inr x.epoch 0 1099511627776 && (inr x.issue 0 1099511627776 && (inr x.key 0 1099511627776 && WireMath.trimmed x.cl WireMath.big))))
set_option maxRecDepth 100000 in
set_option maxHeartbeats 4000000 in
theorem rightClaims_ok (x : ClaimsV) (w : World) (hz : Ints w x.cp x.cl) (hl : x.cl.length ≤ 9223372036854775807) :
    Calls Tryd.prog 41 #[x.val] w fun e w' => e = .returned (.bool x.right) ∧ Below w.heap.size w w' := by
  have HV := Lib.hid (fun w1 (h : Below w.heap.size w w1) => rightVector_ok x.cp x.cc x.cl w1 (hz.grown h) hl)
  have HW := Lib.hid (fun n a b w => within_ok n a b w)
  obtain ⟨session, user, epoch, issue, key, cp, cl, cc⟩ := x
  simp only [ClaimsV.val, ClaimsV.right] at *
  clear hz hl
  cases b1 : (inr (session.size : Int) 1 64) with
  | false =>
    go_enter Tryd.func41, Tryd.ntmps41
    go_wp2_with (first
      | (go_at_call 63; refine (HW.out _ _ _ _).mono ?_; rintro e w3 ⟨rfl, rfl⟩)
      | (go_at_call 64; refine (HV.out _ ((Below.refl _ _).alloc (Nat.le_refl _) _)).mono ?_; rintro e w3 ⟨rfl, rfl⟩))
    go_ret
    exact ⟨rfl, (Below.refl _ _).alloc (Nat.le_refl _) _⟩
  | true =>
    cases b2 : (inr (user.size : Int) 1 32) with
    | false =>
      go_enter Tryd.func41, Tryd.ntmps41
      go_wp2_with (first
        | (go_at_call 63; refine (HW.out _ _ _ _).mono ?_; rintro e w3 ⟨rfl, rfl⟩)
        | (go_at_call 64; refine (HV.out _ ((Below.refl _ _).alloc (Nat.le_refl _) _)).mono ?_; rintro e w3 ⟨rfl, rfl⟩))
      go_ret
      exact ⟨rfl, (Below.refl _ _).alloc (Nat.le_refl _) _⟩
    | true =>
      cases b3 : (inr epoch 0 1099511627776) with
      | false =>
        go_enter Tryd.func41, Tryd.ntmps41
        go_wp2_with (first
          | (go_at_call 63; refine (HW.out _ _ _ _).mono ?_; rintro e w3 ⟨rfl, rfl⟩)
          | (go_at_call 64; refine (HV.out _ ((Below.refl _ _).alloc (Nat.le_refl _) _)).mono ?_; rintro e w3 ⟨rfl, rfl⟩))
        go_ret
        exact ⟨rfl, (Below.refl _ _).alloc (Nat.le_refl _) _⟩
      | true =>
        cases b4 : (inr issue 0 1099511627776) with
        | false =>
          go_enter Tryd.func41, Tryd.ntmps41
          go_wp2_with (first
            | (go_at_call 63; refine (HW.out _ _ _ _).mono ?_; rintro e w3 ⟨rfl, rfl⟩)
            | (go_at_call 64; refine (HV.out _ ((Below.refl _ _).alloc (Nat.le_refl _) _)).mono ?_; rintro e w3 ⟨rfl, rfl⟩))
          go_ret
          exact ⟨rfl, (Below.refl _ _).alloc (Nat.le_refl _) _⟩
        | true =>
          cases b5 : (inr key 0 1099511627776) with
          | false =>
            go_enter Tryd.func41, Tryd.ntmps41
            go_wp2_with (first
              | (go_at_call 63; refine (HW.out _ _ _ _).mono ?_; rintro e w3 ⟨rfl, rfl⟩)
              | (go_at_call 64; refine (HV.out _ ((Below.refl _ _).alloc (Nat.le_refl _) _)).mono ?_; rintro e w3 ⟨rfl, rfl⟩))
            go_ret
            exact ⟨rfl, (Below.refl _ _).alloc (Nat.le_refl _) _⟩
          | true =>
            go_enter Tryd.func41, Tryd.ntmps41
            go_wp2_with (first
              | (go_at_call 63; refine (HW.out _ _ _ _).mono ?_; rintro e w3 ⟨rfl, rfl⟩)
              | (go_at_call 64; refine (HV.out _ ((Below.refl _ _).alloc (Nat.le_refl _) _)).mono ?_; rintro e w3 ⟨rfl, rfl⟩))
            go_ret
            exact ⟨rfl, (Below.refl _ _).alloc (Nat.le_refl _) _⟩
end Go.Proofs.YtajhegjemhegiaaDoor
