/-
  The contracts of chapter 8's helpers told, and of does' function literal. The conditions: the variable errors.errorType reads as the type error's own handle; the error is the one typed.
-/
import Derived.Test.YtfdldjhndfohhaaDoorBlockRef3
import Derived.Test.YtfdldjhndfohhaaDoorPlace
import Derived.Test.YtfdldjhndfohhaaDoorIsCode
namespace Go.Proofs.YtfdldjhndfohhaaDoor
open Go.RowKit BlockMath TextNat

theorem told_nil (k : Int) (w : World) : Calls Tryd.prog 22 #[.nilIface, .int .i64 0, .int .i64 k] w fun e w' => e = .returned (.bool true) ∧ w' = w := by
  go_enter Tryd.func22, Tryd.ntmps22
  go_wp2
  go_ret
  exact ⟨rfl, rfl⟩
set_option maxRecDepth 100000 in
set_option maxHeartbeats 4000000 in
theorem told_some (x : Value) (c k : Int) (w : World) (hc : ErrAt w name k c x) (h0 : c = 1 ∨ c = 4 ∨ c = 5) (hg : Handle w) :
    Calls Tryd.prog 22 #[x, .int .i64 c, .int .i64 k] w fun e w' => e = .returned (.bool true) ∧ Below w.heap.size w w' := by
  obtain ⟨l, hc⟩ := hc
  obtain ⟨b, rfl⟩ := hc.place
  have HC := Lib.hid hc
  have HG := Lib.hid hg
  have HB := Lib.hid (Below.refl w.heap.size w)
  clear hc hg
  rcases h0 with rfl | rfl | rfl
  all_goals
    go_enter Tryd.func22, Tryd.ntmps22
    go_wp2_with (first
      | (go_at_call 38; refine (place_some _ _ _ _ HG.out HC.out.cells.1 HC.out.cells.2).mono ?_; rintro e w2 ⟨rfl, hb⟩; replace HB := Lib.hid (HB.out.trans (hb.mono HB.out.size)); replace HC := Lib.hid (HC.out.mono hb hb.size); clear hb)
      | (go_at_call 7; refine (Is_chain _ _ _ _ _ _ HC.out).mono ?_; rintro e w2 ⟨rfl, rfl⟩))
    go_ret
    exact ⟨by first | rfl | simp, HB.out⟩
theorem told_ok (B : Nat) (x : Value) (c k : Int) (w : World) (hc : ErrOf B w c k x) (h0 : c = 0 ∨ c = 1 ∨ c = 4 ∨ c = 5) (hg : Handle w) :
    Calls Tryd.prog 22 #[x, .int .i64 c, .int .i64 k] w fun e w' => e = .returned (.bool true) ∧ Below w.heap.size w w' := by
  by_cases h : c = 0
  · obtain rfl := hc.zero h
    subst h
    refine (told_nil k w).mono ?_
    rintro e w' ⟨rfl, rfl⟩
    exact ⟨rfl, Below.refl _ _⟩
  · exact told_some x c k w (hc.not h).here (by omega) hg
set_option maxRecDepth 100000 in
theorem size_ok (x v : Nat) (d : Dk) (w : World) (h : Rd w v d) (ok : Ok d) (hx : w.cell? ⟨x, 0, none⟩ = some (ptr v)) : Calls Tryd.prog 19 #[ptr x] w fun e w' => e = .returned (.int .i64 (size d)) ∧ ∃ n, w' = w.drewN n := by
  have HA := Lib.hid (refAll v d w h ok)
  have c4 := Lies.cell (i := 4) h rfl
  clear h
  cases ho : d.off with
  | true =>
    rw [ho] at c4
    have hs : size d = 0 := by unfold size; rw [if_pos ho]
    rw [hs]
    go_enter Tryd.func19, Tryd.ntmps19
    go_wp2
    go_ret
    exact ⟨rfl, 0, rfl⟩
  | false =>
    rw [ho] at c4
    rw [size_on ho]
    go_enter Tryd.func19, Tryd.ntmps19
    go_wp2_with fail
    refine HA.out.mono ?_
    rintro e w2 ⟨rfl, n, rfl⟩
    go_wp2
    go_ret
    exact ⟨rfl, n, rfl⟩
end Go.Proofs.YtfdldjhndfohhaaDoor
