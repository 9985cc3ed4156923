/-
  Sweep of a store whose cells stand in a map of maps: the walk. The conditions: texts of at most 1000 bytes, rows that rise.
-/
import Derived.Test.YtgbhfhnbmgkaoaaGreatDoorNest12
namespace Go.Proofs.YtgbhfhnbmgkaoaaGreatDoor
open Go.RowKit Go.Maps TextNat RegMath

theorem SwO.ended {f : Int} {os : List SesK} {xs : List RowV} {w0 w : World} {b bm r : Nat} {D : DataW Unit} {left : Lit → Bool} {gh : Nat} {done rest : List SesK} (h : SwO f os xs w bm r D left gh done rest) (hn : Nest w0 b (some bm) os xs) (hl : ∀ k, left k = false) (ht : Lies w b [.map (some bm)] 91) :
    Nest w b (some bm) (done.filter (aliveS xs f)) (sweepV xs f) ∧ Full16 (done.filter (aliveS xs f)) (sweepV xs f) ∧ dropN xs f done + (sweepV xs f).length = xs.length ∧ ∀ p ∈ done, p ∈ os := by
  have hr : rest = [] := List.eq_nil_iff_forall_not_mem.2 fun p hp => by
    have := h.lrest p hp
    rw [hl] at this
    cases this
  subst hr
  have hp : os.Perm done := by have := h.parts; rw [List.append_nil] at this; exact this
  have ha : ∀ x ∈ sweepV xs f, ∃ p ∈ os, p.1 = x.session := fun x hx => hn.all x (List.mem_filter.1 hx).1
  refine ⟨⟨ht, ?_, fun p hp1 => h.idone p (List.mem_filter.1 hp1).1, fun x hx => ?_, ?_, fun p hp1 => hn.out p (hp.mem_iff.2 (List.mem_filter.1 hp1).1), hn.ne⟩, fun p hp1 => ?_, ?_, fun p hp1 => hp.mem_iff.2 hp1⟩
  · have := h.holds
    rw [List.append_nil] at this
    exact MapAt.of h.runs.owns this
  · obtain ⟨p, hpo, e⟩ := ha x hx
    refine ⟨p, List.mem_filter.2 ⟨hp.mem_iff.1 hpo, decide_eq_true ?_⟩, e⟩
    refine List.length_pos_of_mem (a := (x.key, x.cell)) (mem_entS.2 ?_)
    rw [e]
    exact hx
  · exact (((hp.pairwise_iff fun h e => h e.symm).1 hn.apart).filter _)
  · have h1 := of_decide_eq_true (List.mem_filter.1 hp1).2
    obtain ⟨⟨k, c⟩, hkc⟩ := List.exists_mem_of_length_pos h1
    exact ⟨_, mem_entS.1 hkc, rfl⟩
  · have h1 := dropN_sum xs f os
    rw [count_ses hn.keys hn.all] at h1
    have h2 := count_ses (xs := sweepV xs f) hn.keys ha
    rw [h2, dropN_perm hp] at h1
    exact h1
theorem dropN_le {f : Int} {os : List SesK} {xs : List RowV} {w0 : World} {b bm : Nat} {done rest : List SesK} (hp : os.Perm (done ++ rest)) (hn : Nest w0 b (some bm) os xs) : dropN xs f done ≤ xs.length := by
  have h1 := dropN_sum xs f os
  rw [count_ses hn.keys hn.all, dropN_perm hp] at h1
  have h2 : dropN xs f (done ++ rest) = dropN xs f done + dropN xs f rest := by unfold dropN; rw [List.map_append, List.sum_append]
  omega
end Go.Proofs.YtgbhfhnbmgkaoaaGreatDoor
