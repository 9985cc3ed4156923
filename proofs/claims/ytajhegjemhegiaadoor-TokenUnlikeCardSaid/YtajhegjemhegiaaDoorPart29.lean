/-
  Texts of one claim, merged.
  TokenGreat: Chapter 12's helper great. No conditions but those typed.
  RefTrimmed: The contract of the document's own Trimmed of chapter 5: it only reads. The condition: the slice's cells.
  SameVec: The contract of the document's own SameVec of chapter 5. The conditions: the vectors' cells.
-/
import Derived.Test.YtajhegjemhegiaaDoorPart21
import Derived.Test.YtajhegjemhegiaaDoorPart10
import Derived.Test.YtajhegjemhegiaaDoorPart12
import Derived.Test.YtajhegjemhegiaaDoorPart13
namespace Go.Proofs.YtajhegjemhegiaaDoor
open Go.RowKit TextNat

def greatC (x : ClaimsV) : Bool := decide (1000 < x.session.size) || decide (1000 < x.user.size) || decide (100 < x.cl.length)
set_option maxRecDepth 100000 in
set_option maxHeartbeats 4000000 in
theorem great_ok (x : ClaimsV) (w : World) : Calls Tryd.prog 12 #[x.val] w fun e w' => e = .returned (.bool (greatC x)) ∧ Below w.heap.size w w' := by
  obtain ⟨se, us, e, i, k, cp, cl, cc⟩ := x
  simp only [ClaimsV.val]
  have e1 : decide ((1000 : Int) < (se.size : Int)) = decide (1000 < se.size) := decide_eq_decide.2 (by omega)
  have e2 : decide ((1000 : Int) < (us.size : Int)) = decide (1000 < us.size) := decide_eq_decide.2 (by omega)
  have e3 : decide ((100 : Int) < (cl.length : Int)) = decide (100 < cl.length) := decide_eq_decide.2 (by omega)
  have HE := Lib.hid (And.intro e1 (And.intro e2 e3))
  clear e1 e2 e3
  go_enter Tryd.func12, Tryd.ntmps12
  go_wp2
  all_goals
    go_ret
    refine ⟨?_, (Below.refl _ _).alloc (Nat.le_refl _) _⟩
    unfold greatC
    rw [← HE.out.1, ← HE.out.2.1, ← HE.out.2.2]
    simp [*]
end Go.Proofs.YtajhegjemhegiaaDoor
namespace Go.Proofs.YtajhegjemhegiaaDoor
open Go.RowKit TextNat

end Go.Proofs.YtajhegjemhegiaaDoor
namespace Go.Proofs.YtajhegjemhegiaaDoor
open Go.RowKit TextNat

theorem drewN_two (w : World) (n m : Nat) : (w.drewN n).drewN m = w.drewN (n + m) := by
  unfold World.drewN
  simp only [Nat.add_assoc]
theorem ints_drewN {w : World} {pp : Option Addr} {zs : List Int} (n : Nat) (h : Ints w pp zs) : Ints (w.drewN n) pp zs := h
set_option maxRecDepth 100000 in
set_option maxHeartbeats 4000000 in
theorem sameVec_ok (pa pb : Option Addr) (ca cb : Nat) (xs ys : List Int) (w : World) (ha : Ints w pa xs) (hb : Ints w pb ys) (hl : xs.length ≤ 9223372036854775807) (_hl2 : ys.length ≤ 9223372036854775807) :
    Calls Tryd.prog 28 #[.slice pa xs.length ca, .slice pb ys.length cb] w fun e w' => e = .returned (.bool (xs == ys)) ∧ ∃ n, w' = w.drewN n := by
  obtain ⟨N, hN⟩ : ∃ N, N = xs.length := ⟨_, rfl⟩
  obtain ⟨M, hM⟩ : ∃ M, M = ys.length := ⟨_, rfl⟩
  have HA := Lib.hid ha
  have HB := Lib.hid hb
  by_cases hNM : N = M
  · have HN := Lib.hid hN
    have HM := Lib.hid (show N = ys.length by rw [hNM, hM])
    have t1 : ((N : Int) == (N : Int)) = true := by rw [beq_iff_eq]
    have hN63 : N ≤ 9223372036854775807 := by rw [hN]; exact hl
    rw [← hN, ← hM, ← hNM]
    clear hN hM hNM ha hb hl
    go_enter Tryd.func28, Tryd.ntmps28
    go_wp2
    go_loopg [5] N (fun gh s5 wx => ∃ i n : Nat, i + gh = N ∧ s5 = .int .i64 (i : Int) ∧ Hid (∀ j : Nat, j < i → xs[j]? = ys[j]?) ∧ wx = w.drewN n)
    case atStart => exact ⟨0, 0, by omega, by go_num, Lib.hid (fun j h => absurd h (by omega)), rfl⟩
    case round =>
      obtain ⟨i, n, hi, rfl, hall, hwr⟩ := hrel
      by_cases hiN : i < N
      · have t2 : decide ((i : Int) < (N : Int)) = true := decide_eq_true (by omega)
        have t2' : decide (i < N) = true := decide_eq_true hiN
        obtain ⟨x, hx⟩ : ∃ x, xs[i]? = some x := ⟨_, List.getElem?_eq_getElem (by rw [← HN.out]; exact hiN)⟩
        obtain ⟨y, hy⟩ : ∃ y, ys[i]? = some y := ⟨_, List.getElem?_eq_getElem (by rw [← HM.out]; exact hiN)⟩
        obtain ⟨_, b1, o1, rfl, hc1⟩ := HA.out _ _ hx
        obtain ⟨_, b2, o2, rfl, hc2⟩ := HB.out _ _ hy
        have k1 : wr.cell? ⟨b1, o1 + i, none⟩ = some (.int .i64 x) := by rw [hwr]; exact hc1
        have k2 : wr.cell? ⟨b2, o2 + i, none⟩ = some (.int .i64 y) := by rw [hwr]; exact hc2
        have HW := Lib.hid hwr
        by_cases hxy : x = y
        · have t3 : (x == y) = true := by rw [beq_iff_eq]; exact hxy
          have HAll := Lib.hid (show ∀ j : Nat, j < i + 1 → xs[j]? = ys[j]? from fun j hj => by
            by_cases hji : j = i
            · subst hji; rw [hx, hy, hxy]
            · exact hall.out j (by omega))
          clear hx hy hc1 hc2 hwr hall
          subst hxy
          go_wp2
          go_quiet (fail)
          go_wp2
          go_roundg (N - (i + 1))
          case measure => omega
          case rel => exact ⟨i + 1, n + nq, by omega, by go_num, HAll, by rw [HW.out, drewN_two]⟩
        · have t3 : (x == y) = false := by rw [beq_eq_false_iff_ne]; exact hxy
          have HF := Lib.hid (show (xs == ys) = false by
            rw [beq_eq_false_iff_ne]
            intro h
            rw [h, hy] at hx
            exact hxy (Option.some.inj hx).symm)
          clear hx hy hc1 hc2 hwr hall
          go_wp2
          go_quiet (fail)
          go_wp2
          go_ret
          rw [HF.out]
          exact ⟨rfl, n + nq, by rw [HW.out, drewN_two]⟩
      · obtain rfl : i = N := by omega
        have t2 : decide ((i : Int) < (i : Int)) = false := decide_eq_false (by omega)
        have t2' : decide (i < i) = false := decide_eq_false (by omega)
        have HF := Lib.hid (show (xs == ys) = true by
          rw [beq_iff_eq]
          apply List.ext_getElem?
          intro j
          by_cases hj : j < i
          · exact hall.out j hj
          · rw [List.getElem?_eq_none (by rw [← HN.out]; omega), List.getElem?_eq_none (by rw [← HM.out]; omega)])
        have HW := Lib.hid hwr
        clear hall hwr
        go_wp2
        go_ret
        rw [HF.out]
        exact ⟨rfl, n, HW.out⟩
  · have HF := Lib.hid (show (xs == ys) = false by rw [beq_eq_false_iff_ne]; intro h; exact hNM (by rw [hN, hM, h]))
    have t1 : ((N : Int) == (M : Int)) = false := by rw [beq_eq_false_iff_ne]; omega
    have t1' : (N == M) = false := by rw [beq_eq_false_iff_ne]; exact hNM
    rw [← hN, ← hM]
    clear hN hM ha hb
    go_enter Tryd.func28, Tryd.ntmps28
    go_wp2
    go_ret
    rw [HF.out]
    exact ⟨rfl, 0, rfl⟩

end Go.Proofs.YtajhegjemhegiaaDoor
