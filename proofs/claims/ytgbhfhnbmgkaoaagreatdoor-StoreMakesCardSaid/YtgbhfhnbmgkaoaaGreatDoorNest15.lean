/-
  A store that isn't there, of a program whose stores' cells stand in a map of maps. The conditions: texts of at most 2^48 bytes.
-/
import Derived.Test.YtgbhfhnbmgkaoaaGreatDoorNest10
namespace Go.Proofs.YtgbhfhnbmgkaoaaGreatDoor
open Go.RowKit Go.Maps TextNat RegMath

theorem none_sess (s : ByteArray) (hs : s.size ≤ 281474976710656) (w : World) : (Instr.lookup 89 (.map none) (.string s) false).run Tryz.prog w = .ok (.map none) w :=
  ((MapAt.none (E := mapE) w).look Tryz.underlying89 (zero_map w) (s := s) (by unfold maxLen; omega) (r := none) (fun c hc => by cases hc)).1
theorem none_key (w : World) : (Instr.lookup 88 (.map none) (.string ⟨#[]⟩) false).run Tryz.prog w = .ok zeroR.val w :=
  ((MapAt.none (E := cellE) w).look Tryz.underlying88 (zero_cell w) (s := ⟨#[]⟩) (by decide) (r := none) (fun c hc => by cases hc)).1
set_option maxRecDepth 100000 in
theorem livesNone16 (w : World) : Calls Tryz.prog 33 #[.pointer none] w fun e w' => (∃ p c, e = .returned (.slice p 0 c) ∧ c ≤ 9223372036854775807) ∧ Below w.heap.size w w' := by
  have eg : ∀ args w, (callFunc 56 args).run Tryz.prog w = .ok (.enter 56 args) w := enters_of Tryz.func56 (by kernel_rfl) rfl
  have HR := Lib.hid (risingMap16 none [] (fun _ => true) [] 56 #[] w (MapAt.none w) (Nat.zero_le _) (fun p hp => by cases hp) List.Pairwise.nil (fun x => ⟨(fun h => by cases h), (fun ⟨c, h, _⟩ => by cases h)⟩) eg (fun p hp => by cases hp))
  have HA := Lib.hid (allNone16 w)
  clear eg
  go_enter Tryz.func33, Tryz.ntmps33
  go_wp2_with fail
  refine HA.out.mono ?_
  rintro e w0 ⟨rfl, hw0⟩
  rw [hw0]
  clear hw0
  go_wp2_with fail
  refine HR.out.mono ?_
  rintro e w1 ⟨⟨p, c, rfl, h1, h2, h3⟩, hb⟩
  have HB := Lib.hid hb
  clear h3 hb
  go_wp2
  go_ret
  exact ⟨⟨p, c, rfl, h2⟩, HB.out⟩
end Go.Proofs.YtgbhfhnbmgkaoaaGreatDoor
