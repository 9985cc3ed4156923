/-
  BakeWrites's card, proved: for all that it is given BakeWrites returns true and leaves it as it was. The five tables of the library that its row lists are tied to Go's own text.
-/
import Derived.Test.YtlgofepmdjlpgaaDoorLaidBake
import Derived.Test.YtlgofepmdjlpgaaDoorPart18
import Derived.Test.YtlgofepmdjlpgaaDoorPart19
import Derived.Test.YtlgofepmdjlpgaaDoorPart21
import Derived.Test.YtlgofepmdjlpgaaDoorBakeWhole
import Derived.Test.YtlgofepmdjlpgaaDoorTie
import Derived.Test.YtlgofepmdjlpgaaDoorCards
import Derived.SevenTiedAt
import Derived.ChangeMaps5
namespace Go.Proofs.YtlgofepmdjlpgaaDoor
open Go.ChangeShapes Go.WideShapes Go.RowKit Go.ChangeMaps

set_option maxRecDepth 100000 in
theorem bakeWrites_lifted (os : Os) (started : os.Started) (H : Type) (enc : TypeId × Value → H) :
    ReturnsInHanded {} Tryd.checked os 3 .any (fun w args => (Rows.bakeWritesSpec.pre enc Tryd.prog Tryd.f3 [] false w args ∧ laidMetH Tryd.prog tabsList w) ∧ sizedMet enc Tryd.prog Tryd.f3 (OpenSpec.ofChange Rows.bakeWritesSpec) false w args)
      (Rows.bakeWritesSpec.post enc Tryd.prog Tryd.f3 false true false false) := by
  refine law_lifted (C := Tryd.checked) (L := tabsList) (fun _ _ hh h => h.of_heap hh) ownNone started (by kernel_rfl) Tryd.func3 rfl (by kernel_rfl) (by kernel_rfl) rfl Tryd.underlying4
    (ChangeSpec.witness_shaped (enc := enc) (C := Tryd.checked) (os := os) (X := fun w _ => laidMetH Tryd.prog tabsList w) false (World.laidAll Tryd.prog os tabsList) #[.agg #[.string ⟨#[]⟩, .string ⟨#[]⟩, .string ⟨#[]⟩, .int .i64 0, .bool false, .bool false, .int .i64 0]] 8 (World.laidAll_os _ _ _)
      (World.shaped_of_ZipB (by kernel_rfl) (by kernel_rfl)) (by kernel_rfl) (by kernel_rfl) (by kernel_rfl) (tabsWorld_met os _)) ?_ ?_
  · intro ds hd
    match ds, hd with
    | [_], _ => rfl
  intro W base args ds p hval hA hL
  rw [Tryd.params3] at hA hval
  obtain ⟨v0, d0, rfl, rfl, h0⟩ := trodAll_one hA
  obtain ⟨x0, rfl, z0⟩ := cookie_in (hval 0 23 v0 rfl rfl) h0
  exact writes_true tabsUp writeOk parseOk x0 W (tabs_of_laid hL) z0

theorem bakeWrites_said : Rows.BakeWritesSaid :=
  OpenClaim.holds_of_wide 3 Tryd.f3 rfl rfl rfl rfl rfl rfl rfl ⟨rfl, rfl, rfl, rfl, rfl⟩ rfl rfl rfl rfl rfl (by kernel_rfl) Tryd.func3 (by kernel_rfl)
    (of_decide_eq_true (by kernel_rfl)) (by unfold Func.isWrapper; rw [if_neg (of_decide_eq_false (by kernel_rfl))]; exact ⟨rfl, rfl⟩)
    (fun os started H enc _ => bakeWrites_lifted os started H enc)

theorem bakeWrites_card_holds : Rows.BakeWritesCardSaid :=
  Claim7.holds_tied_plain_at .later [] [.data, .data, .data, .data, .pinned] true (true, "8198c4dca3e69d63cb5cc63557318ae9d41c0812dcf04f97b75fffe55feb6484") true
    bakeWrites_said (fun _ h => by cases h) (by kernel_rfl) (fun _ h => by cases h) bakeWrites_row_tie rfl ⟨rfl, rfl⟩ (by kernel_rfl) rfl
    (fun f fn hf hfn => by
      obtain rfl : f = 3 := Option.some.inj ((show Tryd.prog.funcNamed "sojourn/sojournlaw14.BakeWrites" = some 3 by kernel_rfl).symm.trans hf) |>.symm
      obtain rfl : fn = Tryd.f3 := (Option.some.inj (Tryd.func3.symm.trans hfn)).symm
      exact ⟨by kernel_rfl, fun j t ht => no_stand_in (P := Tryd.prog) Tryd.f3.params (by kernel_rfl) j t ht⟩)
    (by kernel_rfl)
end Go.Proofs.YtlgofepmdjlpgaaDoor
