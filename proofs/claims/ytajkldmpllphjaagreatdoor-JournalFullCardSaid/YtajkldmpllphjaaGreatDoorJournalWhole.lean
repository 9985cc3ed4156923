/-
  The program's contracts of chapter 10, gathered; what chapter 10's laws start from. The conditions: what lies in memory.
-/
import Derived.Test.YtajkldmpllphjaaGreatDoorJournalQ28
import Derived.Test.YtajkldmpllphjaaGreatDoorPart03
namespace Go.Proofs.YtajkldmpllphjaaGreatDoor
open Go.RowKit BlockMath TextNat JournalMath
theorem owns : Owns dev := fun w b S d h => by
  obtain ⟨p, n, cap, fu, lf, h1, h2, h3⟩ := h
  exact (h3 b).2 (.inl rfl)
end Go.Proofs.YtajkldmpllphjaaGreatDoor
