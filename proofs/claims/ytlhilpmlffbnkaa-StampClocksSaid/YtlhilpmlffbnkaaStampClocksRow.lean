/-
  StampClocks: of any region, time and numbers it returns true and leaves them as they were. No conditions.
-/
import Derived.Test.YtlhilpmlffbnkaaRowBase
import Derived.Test.YtlhilpmlffbnkaaStampClocks
import Derived.Test.YtlhilpmlffbnkaaStampOpen
import Derived.Test.YtlhilpmlffbnkaaIntsIn
import Derived.Test.YtlhilpmlffbnkaaStampProg
namespace Go.Proofs.Ytlhilpmlffbnkaa
open Go.ChangeShapes Go.WideShapes Go.RowKit Go.ChangeMaps

set_option maxRecDepth 100000 in
theorem stampClocks_lifted (os : Os) (started : os.Started) (H : Type) (enc : TypeId × Value → H) :
    ReturnsInHanded {} Try.checked os 4 .any (fun w args => Rows.stampClocksSpec.pre enc Try.prog Try.f4 [] false w args ∧ sizedMet enc Try.prog Try.f4 (OpenSpec.ofChange Rows.stampClocksSpec) false w args)
      (Rows.stampClocksSpec.post enc Try.prog Try.f4 false true false false) := by
  refine law_lifted_plain (C := Try.checked) ownNone started (by kernel_rfl) Try.func4 rfl (by kernel_rfl) (by kernel_rfl) rfl Try.underlying4
    (ChangeSpec.witness_at (enc := enc) (C := Try.checked) (os := os) (X := fun w _ => laidMetH Try.prog [] w) false (plainWorld os) #[.int .i64 0, .int .i64 0, .slice none 0 0] 8 rfl (by kernel_rfl) (by kernel_rfl) (by kernel_rfl) (by kernel_rfl) (by kernel_rfl) (laidMet_nil _ _)) ?_ ?_
  · intro ds hd
    match ds, hd with
    | [_, _, _], _ => rfl
  intro W base args ds p hval hA
  rw [Try.params4] at hA hval
  obtain ⟨v0, v1, v2, d0, d1, d2, p0, p1, p2, rfl, rfl, rfl, h0, h1, h2⟩ := trodAll_three hA
  obtain ⟨n0, rfl, _, _, w0⟩ := open_int Try.underlying3 (hval 0 3 v0 rfl rfl) h0
  obtain ⟨n1, rfl, _, _, w1⟩ := open_int Try.underlying3 (hval 1 3 v1 rfl rfl) h1
  obtain ⟨zs, pp, cap, rfl, cm, I⟩ := ints_in (hval 2 31 v2 rfl rfl) h2
  exact clocks_true n0 n1 pp cap zs W I (by unfold maxLen at cm; omega) (wf_i64 w0) (wf_i64 w1) newOk nextOk seeOk timeOk

theorem stampClocks_holds : Rows.StampClocksSaid :=
  OpenClaim.holds_of_wide 4 Try.f4 rfl rfl rfl rfl rfl rfl rfl ⟨rfl, rfl, rfl, rfl, rfl⟩ rfl rfl rfl rfl rfl (by kernel_rfl) Try.func4 (by kernel_rfl)
    (of_decide_eq_true (by kernel_rfl)) (by unfold Func.isWrapper; rw [if_neg (of_decide_eq_false (by kernel_rfl))]; exact ⟨rfl, rfl⟩)
    (fun os started H enc _ => stampClocks_lifted os started H enc)

end Go.Proofs.Ytlhilpmlffbnkaa
