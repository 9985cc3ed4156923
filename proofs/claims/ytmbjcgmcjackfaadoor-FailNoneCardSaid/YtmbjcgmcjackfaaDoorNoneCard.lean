/-
  FailNone's card, proved: for every text and number FailNone returns true and leaves them as they were. The variable errors.errorType is tied to the program's text.
-/
import Derived.Test.YtmbjcgmcjackfaaDoorNoneProof
import Derived.Test.YtmbjcgmcjackfaaDoorTie
import Derived.Test.YtmbjcgmcjackfaaDoorCards
import Derived.SevenTiedAt
namespace Go.Proofs.YtmbjcgmcjackfaaDoor
open Go

theorem failNone_card_holds : Rows.FailNoneCardSaid :=
  Claim7.holds_tied_plain_at .later [] [.handle] true (true, "77105476ebd5918038ef77aa12b0681091f07303265852b9027761e653519432") true
    none_said (fun _ h => by cases h) (by kernel_rfl) (fun _ h => by cases h) failNone_row_tie rfl ⟨rfl, rfl⟩ (by kernel_rfl) rfl
    (fun f fn hf hfn => by
      obtain rfl : f = 5 := Option.some.inj ((show Tryd.prog.funcNamed "sojourn/sojournlaw01.FailNone" = some 5 by kernel_rfl).symm.trans hf) |>.symm
      obtain rfl : fn = Tryd.f5 := (Option.some.inj (Tryd.func5.symm.trans hfn)).symm
      exact ⟨by kernel_rfl, fun j t ht => by
        rw [Tryd.params5] at ht
        have h3 : t = 9 ∨ t = 3 := by
          rcases j with _ | _ | j
          · exact .inl (by simpa using ht.symm)
          · exact .inr (by simpa using ht.symm)
          · simp at ht
        rcases h3 with rfl | rfl
        · exact (show Tryd.prog.wantsStandIn 9 = false by kernel_rfl)
        · exact (show Tryd.prog.wantsStandIn 3 = false by kernel_rfl)⟩)
    (by kernel_rfl)
end Go.Proofs.YtmbjcgmcjackfaaDoor
