/-
  TextOctets' card, proved: for every text TextOctets returns true and leaves it as it was. unicode/utf8's two tables are tied to Go's own text.
-/
import Derived.Test.YtfophdombipemaaDoorLaidTabs
import Derived.Test.YtfophdombipemaaDoorLawRow
import Derived.Test.YtfophdombipemaaDoorTextTrim
import Derived.Test.YtfophdombipemaaDoorTextDecode
import Derived.Test.YtfophdombipemaaDoorTextTests
import Derived.Test.YtfophdombipemaaDoorTie
import Derived.Test.YtfophdombipemaaDoorCards
import Derived.SevenTiedAt
import Derived.ChangeMaps5
namespace Go.Proofs.YtfophdombipemaaDoor
open Go.ChangeShapes Go.WideShapes Go.RowKit Go.ChangeMaps

theorem small_text {n : Nat} (h : n ≤ maxLen) : n ≤ 9223372036854775807 := by unfold maxLen at h; omega

set_option maxRecDepth 100000 in
theorem textOctets_lifted (os : Os) (started : os.Started) (H : Type) (enc : TypeId × Value → H) :
    ReturnsInHanded {} Tryd.checked os 4 .any (fun w args => (Rows.textOctetsSpec.pre enc Tryd.prog Tryd.f4 [] false w args ∧ laidMetH Tryd.prog tabsList w) ∧ sizedMet enc Tryd.prog Tryd.f4 (OpenSpec.ofChange Rows.textOctetsSpec) false w args)
      (Rows.textOctetsSpec.post enc Tryd.prog Tryd.f4 false true false false) := by
  refine law_lifted (C := Tryd.checked) (L := tabsList) (fun _ _ hh h => h.of_heap hh) ownNone started (by kernel_rfl) Tryd.func4 rfl (by kernel_rfl) (by kernel_rfl) rfl Tryd.underlying4
    (ChangeSpec.witness_shaped (enc := enc) (C := Tryd.checked) (os := os) (X := fun w _ => laidMetH Tryd.prog tabsList w) false (World.laidAll Tryd.prog os tabsList) #[.string ⟨#[]⟩] 8 (World.laidAll_os _ _ _)
      (World.shaped_of_ZipB (by kernel_rfl) (by kernel_rfl)) (by kernel_rfl) (by kernel_rfl) (by kernel_rfl) (tabsWorld_met os _)) ?_ ?_
  · intro ds hd
    match ds, hd with
    | [_], _ => rfl
  intro W base args ds p hval hA hL
  rw [Tryd.params4] at hA hval
  obtain ⟨v0, d0, rfl, rfl, h0⟩ := trodAll_one hA
  obtain ⟨s, rfl, rfl, rfl, ws⟩ := open_string Tryd.underlying9 (hval 0 9 v0 rfl rfl) h0
  exact octets_true s W encOk decOk octetsOk tokenOk trimOk (tabs_of_laid hL) (small_text ws)

theorem textOctets_said : Rows.TextOctetsSaid :=
  OpenClaim.holds_of_wide 4 Tryd.f4 rfl rfl rfl rfl rfl rfl rfl ⟨rfl, rfl, rfl, rfl, rfl⟩ rfl rfl rfl rfl rfl (by kernel_rfl) Tryd.func4 (by kernel_rfl)
    (of_decide_eq_true (by kernel_rfl)) (by unfold Func.isWrapper; rw [if_neg (of_decide_eq_false (by kernel_rfl))]; exact ⟨rfl, rfl⟩)
    (fun os started H enc _ => textOctets_lifted os started H enc)

theorem textOctets_card_holds : Rows.TextOctetsCardSaid :=
  Claim7.holds_tied_plain_at .later [] [.data, .pinned] true (true, "6b023790eb812eeb6f53db178fd4c75d51a4417152b9a7d96194177cd3105fbf") true
    textOctets_said (fun _ h => by cases h) (by kernel_rfl) (fun _ h => by cases h) textOctets_row_tie rfl ⟨rfl, rfl⟩ (by kernel_rfl) rfl
    (fun f fn hf hfn => by
      obtain rfl : f = 4 := Option.some.inj ((show Tryd.prog.funcNamed "sojourn/sojournlaw04.TextOctets" = some 4 by kernel_rfl).symm.trans hf) |>.symm
      obtain rfl : fn = Tryd.f4 := (Option.some.inj (Tryd.func4.symm.trans hfn)).symm
      exact ⟨by kernel_rfl, fun j t ht => no_stand_in (P := Tryd.prog) Tryd.f4.params (by kernel_rfl) j t ht⟩)
    (by kernel_rfl)
end Go.Proofs.YtfophdombipemaaDoor
