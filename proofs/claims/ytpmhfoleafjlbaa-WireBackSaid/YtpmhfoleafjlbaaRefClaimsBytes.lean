/-
  The contract of the document's own ClaimsBytes of chapter 5: what is written of claims' six things. The conditions: the vector's cells; two texts of at most 100,000 bytes, a vector of at most 1,000,000.
-/
import Derived.Test.YtpmhfoleafjlbaaRefWriteBytes
import Derived.Test.YtpmhfoleafjlbaaWireRightC
namespace Go.Proofs.Ytpmhfoleafjlbaa
open Go.RowKit TextNat

/-- Claims' things. -/
def ClaimsV.items (x : ClaimsV) : List Item := [textItem x.session, textItem x.user, numItem x.epoch, numItem x.issue, numItem x.key, vecItem x.cp x.cl x.cc]

set_option maxRecDepth 100000 in
set_option maxHeartbeats 4000000 in
theorem refClaimsBytes (x : ClaimsV) (w : World) (hz : Ints w x.cp x.cl) (hs : x.session.size ≤ 100000 ∧ x.user.size ≤ 100000) (hl : x.cl.length ≤ 1000000) :
    Calls Try.prog 30 #[x.val] w fun e w' => e = .returned (.string (putText (WireMath.written (x.items.map Item.thing)))) ∧ Below w.heap.size w w' := by
  obtain ⟨session, user, epoch, issue, key, cp, cl, cc⟩ := x
  simp only [ClaimsV.val] at *
  go_enter Try.func30, Try.ntmps30
  go_wp2_with fail
  refine (refWritten (ClaimsV.items ⟨session, user, epoch, issue, key, cp, cl, cc⟩) _ 6 _ ?hI ?hlt ?hs ?hn).mono ?_
  case hI =>
    refine itemsAt_of (T := 36) ?_ ?_
    · simp only [ClaimsV.items, List.flatMap_cons, List.flatMap_nil, Item.cells, numItem, textItem, vecItem, List.cons_append, List.nil_append, List.length_nil]
      exact heap_two w _ _
    · intro y hy
      simp only [ClaimsV.items, List.mem_cons, List.not_mem_nil, or_false] at hy
      rcases hy with rfl | rfl | rfl | rfl | rfl | rfl <;> first
        | exact ints_none _
        | exact hz.grown (below_two w _ _)
  case hlt => simp
  case hs =>
    intro y hy
    simp only [ClaimsV.items, List.mem_cons, List.not_mem_nil, or_false] at hy
    rcases hy with rfl | rfl | rfl | rfl | rfl | rfl <;> refine ⟨?_, ?_⟩ <;> first
      | exact hs.1
      | exact hs.2
      | exact hl
      | exact Nat.zero_le _
  case hn => simp [ClaimsV.items]
  rintro e w2 ⟨rfl, hb2⟩
  cases hp : WireMath.written ((ClaimsV.items ⟨session, user, epoch, issue, key, cp, cl, cc⟩).map Item.thing) with
  | mk out bad =>
    cases bad with
    | none =>
      unfold putValue
      simp only
      go_wp2_with fail
      go_ret
      rw [hp]
      exact ⟨rfl, (below_two w _ _).trans (hb2.mono (below_two w _ _).size)⟩
    | some q =>
      obtain ⟨c, at'⟩ := q
      unfold putValue
      simp only
      go_wp2_with fail
      go_ret
      rw [hp]
      exact ⟨rfl, (below_two w _ _).trans (hb2.mono (below_two w _ _).size)⟩
end Go.Proofs.Ytpmhfoleafjlbaa
