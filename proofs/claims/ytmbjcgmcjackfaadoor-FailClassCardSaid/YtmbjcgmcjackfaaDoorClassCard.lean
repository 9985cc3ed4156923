/-
  FailClass's card, proved: for every code, text and number FailClass returns true and leaves them as they were. The variable errors.errorType is tied to the program's text.
-/
import Derived.Test.YtmbjcgmcjackfaaDoorClassProof
import Derived.Test.YtmbjcgmcjackfaaDoorTie
import Derived.Test.YtmbjcgmcjackfaaDoorCards
import Derived.SevenTiedAt
namespace Go.Proofs.YtmbjcgmcjackfaaDoor
open Go

theorem failClass_card_holds : Rows.FailClassCardSaid :=
  Claim7.holds_tied_plain_at .later [] [.handle] true (true, "77105476ebd5918038ef77aa12b0681091f07303265852b9027761e653519432") true
    class_said (fun _ h => by cases h) (by kernel_rfl) (fun _ h => by cases h) failClass_row_tie rfl ⟨rfl, rfl⟩ (by kernel_rfl) rfl
    (fun f fn hf hfn => by
      obtain rfl : f = 4 := Option.some.inj ((show Tryd.prog.funcNamed "sojourn/sojournlaw01.FailClass" = some 4 by kernel_rfl).symm.trans hf) |>.symm
      obtain rfl : fn = Tryd.f4 := (Option.some.inj (Tryd.func4.symm.trans hfn)).symm
      exact ⟨by kernel_rfl, fun j t ht => by
        rw [Tryd.params4] at ht
        have h3 : t = 9 ∨ t = 3 := by
          rcases j with _ | _ | _ | j
          · exact .inr (by simpa using ht.symm)
          · exact .inl (by simpa using ht.symm)
          · exact .inr (by simpa using ht.symm)
          · simp at ht
        rcases h3 with rfl | rfl
        · exact (show Tryd.prog.wantsStandIn 9 = false by kernel_rfl)
        · exact (show Tryd.prog.wantsStandIn 3 = false by kernel_rfl)⟩)
    (by kernel_rfl)
end Go.Proofs.YtmbjcgmcjackfaaDoor
