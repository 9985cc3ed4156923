/-
  FailWraps's card, proved: for every code, slice of wraps and other code FailWraps returns true and leaves them as they were. The variable errors.errorType is tied to the program's text.
-/
import Derived.Test.YtmbjcgmcjackfaaDoorWrapsProof
import Derived.Test.YtmbjcgmcjackfaaDoorTie
import Derived.Test.YtmbjcgmcjackfaaDoorCards
import Derived.SevenTiedAt
namespace Go.Proofs.YtmbjcgmcjackfaaDoor
open Go

theorem failWraps_card_holds : Rows.FailWrapsCardSaid :=
  Claim7.holds_tied_plain_at .later [] [.handle] true (true, "77105476ebd5918038ef77aa12b0681091f07303265852b9027761e653519432") true
    wraps_said (fun _ h => by cases h) (by kernel_rfl) (fun _ h => by cases h) failWraps_row_tie rfl ⟨rfl, rfl⟩ (by kernel_rfl) rfl
    (fun f fn hf hfn => by
      obtain rfl : f = 3 := Option.some.inj ((show Tryd.prog.funcNamed "sojourn/sojournlaw01.FailWraps" = some 3 by kernel_rfl).symm.trans hf) |>.symm
      obtain rfl : fn = Tryd.f3 := (Option.some.inj (Tryd.func3.symm.trans hfn)).symm
      exact ⟨by kernel_rfl, fun j t ht => by
        rw [Tryd.params3] at ht
        have h3 : t = 22 ∨ t = 3 := by
          rcases j with _ | _ | _ | j
          · exact .inr (by simpa using ht.symm)
          · exact .inl (by simpa using ht.symm)
          · exact .inr (by simpa using ht.symm)
          · simp at ht
        rcases h3 with rfl | rfl
        · exact (show Tryd.prog.wantsStandIn 22 = false by kernel_rfl)
        · exact (show Tryd.prog.wantsStandIn 3 = false by kernel_rfl)⟩)
    (by kernel_rfl)
end Go.Proofs.YtmbjcgmcjackfaaDoor
