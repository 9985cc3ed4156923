/-
  The contracts of chapter 5's helper told, and of nil Outs and Ins. The conditions: the variable errors.errorType reads as the type error's own handle; the error is the chain typed.
-/
import Derived.Test.YtpmhfoleafjlbaaDoorPlace
import Derived.Test.YtpmhfoleafjlbaaDoorIsCode
import Derived.Test.YtpmhfoleafjlbaaDoorWireOuts
import Derived.Test.YtpmhfoleafjlbaaDoorWireInText
import Derived.Test.YtpmhfoleafjlbaaDoorWireInVec
namespace Go.Proofs.YtpmhfoleafjlbaaDoor
open Go.RowKit TextNat

theorem told_nil (k : Int) (w : World) : Calls Tryd.prog 14 #[.nilIface, .int .i64 0, .int .i64 k] w fun e w' => e = .returned (.bool true) ∧ w' = w := by
  go_enter Tryd.func14, Tryd.ntmps14
  go_wp2
  go_ret
  exact ⟨rfl, rfl⟩
set_option maxRecDepth 100000 in
set_option maxHeartbeats 4000000 in
theorem told_some (v : Value) (c k : Int) (w : World) (hc : Chain w.heap.size w [(⟨#[119, 105, 114, 101]⟩, k)] (.iface 40 (.int .i64 c)) v) (h0 : c = 1 ∨ c = 2 ∨ c = 3) (hg : Handle w) :
    Calls Tryd.prog 14 #[v, .int .i64 c, .int .i64 k] w fun e w' => e = .returned (.bool true) ∧ Below w.heap.size w w' := by
  obtain ⟨b, rfl⟩ := hc.place
  have HC := Lib.hid hc
  have HG := Lib.hid hg
  have HB := Lib.hid (Below.refl w.heap.size w)
  clear hc hg
  rcases h0 with rfl | rfl | rfl
  all_goals
    go_enter Tryd.func14, Tryd.ntmps14
    go_wp2_with (first
      | (go_at_call 35; refine (place_some _ _ _ _ HG.out HC.out.cells.1 HC.out.cells.2).mono ?_; rintro e w2 ⟨rfl, hb⟩; replace HB := Lib.hid (HB.out.trans (hb.mono HB.out.size)); replace HC := Lib.hid (HC.out.mono hb hb.size); clear hb)
      | (go_at_call 15; refine (Is_chain _ _ _ _ _ _ HC.out).mono ?_; rintro e w2 ⟨rfl, rfl⟩))
    go_ret
    exact ⟨by first | rfl | simp, HB.out⟩

theorem putNil_ok (s : ByteArray) (pp : Option Addr) (n cap : Nat) (w : World) : Calls Tryd.prog 32 #[.pointer none, .string s, .slice pp n cap] w fun e w' => e = .returned (.tuple #[]) ∧ w' = w := by
  go_enter Tryd.func32, Tryd.ntmps32
  go_wp2
  (try simp only [Exit.inBlock, Exit.then]); refine bodyPost_ret (results_none rfl _ _ _) rfl ?_
  exact ⟨rfl, rfl⟩
theorem numNil_ok (n : Int) (w : World) : Calls Tryd.prog 10 #[.pointer none, .int .i64 n] w fun e w' => e = .returned (.tuple #[]) ∧ Below w.heap.size w w' := by
  have HP := Lib.hid putNil_ok
  go_enter Tryd.func10, Tryd.ntmps10
  go_wp2_with (go_at_call 32; refine (HP.out _ _ _ _ _).mono ?_; rintro e w2 ⟨rfl, rfl⟩)
  go_end0
  exact ⟨rfl, (Below.refl _ _).alloc (Nat.le_refl _) _⟩
theorem textNil_ok (s : ByteArray) (w : World) : Calls Tryd.prog 11 #[.pointer none, .string s] w fun e w' => e = .returned (.tuple #[]) ∧ Below w.heap.size w w' := by
  have HP := Lib.hid putNil_ok
  go_enter Tryd.func11, Tryd.ntmps11
  go_wp2_with (go_at_call 32; refine (HP.out _ _ _ _ _).mono ?_; rintro e w2 ⟨rfl, rfl⟩)
  go_end0
  exact ⟨rfl, (Below.refl _ _).alloc (Nat.le_refl _) _⟩
theorem flagNil_ok (w : World) : Calls Tryd.prog 12 #[.pointer none, .bool true] w fun e w' => e = .returned (.tuple #[]) ∧ Below w.heap.size w w' := by
  have HP := Lib.hid putNil_ok
  go_enter Tryd.func12, Tryd.ntmps12
  go_wp2_with (go_at_call 32; refine (HP.out _ _ _ _ _).mono ?_; rintro e w2 ⟨rfl, rfl⟩)
  go_end0
  exact ⟨rfl, (Below.refl _ _).alloc (Nat.le_refl _) _⟩
theorem vecNil_ok (w : World) : Calls Tryd.prog 13 #[.pointer none, .slice none 0 0] w fun e w' => e = .returned (.tuple #[]) ∧ Below w.heap.size w w' := by
  have HP := Lib.hid putNil_ok
  have HT := Lib.hid (trimmed_ok none 0 [] w (fun i z h => by simp at h) (by simp))
  go_enter Tryd.func13, Tryd.ntmps13
  go_wp2_with (first
    | (go_at_call 33; refine HT.out.mono ?_; rintro e w3 ⟨rfl, nn, rfl⟩)
    | (go_at_call 32; refine (HP.out _ _ _ _ _).mono ?_; rintro e w2 ⟨rfl, rfl⟩))
  go_end0
  exact ⟨rfl, (Below.refl _ _).alloc (Nat.le_refl _) _⟩
theorem doneNil_ok (w : World) : Calls Tryd.prog 8 #[.pointer none] w fun e w' => ∃ r, e = .returned (.tuple #[.string ⟨#[]⟩, r]) ∧ Chain w'.heap.size w' [(⟨#[119, 105, 114, 101]⟩, (0 : Int))] (.iface 40 (.int .i64 (1 : Int))) r ∧ Below w.heap.size w w' := by
  have HA := Lib.hid (fun w1 => at_chain ⟨#[119, 105, 114, 101]⟩ (0 : Int) [] (1 : Int) (.iface 40 (.int .i64 (1 : Int))) w1 rfl)
  go_enter Tryd.func8, Tryd.ntmps8
  go_wp2_with (go_at_call 30; refine (HA.out _).mono ?_; rintro e w4 ⟨r, rfl, hc, hb⟩)
  go_ret2
  exact ⟨r, rfl, hc, hb⟩
theorem inNumNil_ok (most : Int) (w : World) : Calls Tryd.prog 25 #[.pointer none, .int .i64 most] w fun e w' => e = .returned (.int .i64 0) ∧ w' = w := by
  go_enter Tryd.func25, Tryd.ntmps25
  go_wp2
  go_ret
  exact ⟨rfl, rfl⟩
theorem inTextNil_ok (most : Int) (w : World) : Calls Tryd.prog 18 #[.pointer none, .int .i64 most] w fun e w' => e = .returned (.string ⟨#[]⟩) ∧ w' = w := by
  go_enter Tryd.func18, Tryd.ntmps18
  go_wp2
  go_ret
  exact ⟨rfl, rfl⟩
theorem inFlagNil_ok (w : World) : Calls Tryd.prog 20 #[.pointer none] w fun e w' => e = .returned (.bool false) ∧ w' = w := by
  have HN := Lib.hid inNumNil_ok
  go_enter Tryd.func20, Tryd.ntmps20
  go_wp2_with (go_at_call 25; refine (HN.out _ _).mono ?_; rintro e w2 ⟨rfl, rfl⟩)
  go_ret
  exact ⟨rfl, rfl⟩
theorem inVecNil_ok (w : World) : Calls Tryd.prog 23 #[.pointer none] w fun e w' => e = .returned (.slice none 0 0) ∧ w' = w := by
  go_enter Tryd.func23, Tryd.ntmps23
  go_wp2
  go_ret
  exact ⟨rfl, rfl⟩
theorem inLeftNil_ok (w : World) : Calls Tryd.prog 28 #[.pointer none] w fun e w' => e = .returned (.int .i64 0) ∧ w' = w := by
  go_enter Tryd.func28, Tryd.ntmps28
  go_wp2
  go_ret
  exact ⟨rfl, rfl⟩
theorem inEndNil_ok (w : World) : Calls Tryd.prog 29 #[.pointer none] w fun e w' => ∃ r, e = .returned r ∧ Chain w'.heap.size w' [(⟨#[119, 105, 114, 101]⟩, (0 : Int))] (.iface 40 (.int .i64 (2 : Int))) r ∧ Below w.heap.size w w' := by
  have HA := Lib.hid (fun w1 => at_chain ⟨#[119, 105, 114, 101]⟩ (0 : Int) [] (2 : Int) (.iface 40 (.int .i64 (2 : Int))) w1 rfl)
  go_enter Tryd.func29, Tryd.ntmps29
  go_wp2_with (go_at_call 30; refine (HA.out _).mono ?_; rintro e w4 ⟨r, rfl, hc, hb⟩)
  go_ret
  exact ⟨r, rfl, hc, hb⟩
end Go.Proofs.YtpmhfoleafjlbaaDoor
