/-
  maps.DeleteFunc over a session's map. The conditions: what the function literal asks.
-/
import Derived.Test.YtgbhfhnbmgkaoaaGreatDoorPart23
import Derived.Test.YtgbhfhnbmgkaoaaGreatDoorNestMath
import Derived.Deep.Cut
import Derived.Deep.CutRange
import Derived.Deep.LoopGhost
import Derived.Laws.IdiomRangeMap
namespace Go.Proofs.YtgbhfhnbmgkaoaaGreatDoor
open Go.RowKit Go.Maps TextNat RegMath

abbrev EntK := ByteArray × RegV
theorem CameE.drop {ys cs : List EntK} {left : Lit → Bool} {x : EntK} (h : CameE ys left (cs ++ [x])) (ha : ys.Pairwise fun p q => p.1 ≠ q.1) : CameE (ys.filter fun y => decide (y.1 ≠ x.1)) left cs := by
  obtain ⟨rest, hp, h1, h2⟩ := h
  have e : cs ++ [x] ++ rest = cs ++ x :: rest := by simp
  rw [e] at hp
  have hp2 : ys.Perm (x :: (cs ++ rest)) := hp.trans List.perm_middle
  have ha2 : (x :: (cs ++ rest)).Pairwise fun p q => p.1 ≠ q.1 := (hp2.pairwise_iff fun h e => h e.symm).1 ha
  obtain ⟨a1, _⟩ := List.pairwise_cons.1 ha2
  refine ⟨rest, ?_, fun y hy => h1 y (List.mem_append_left _ hy), h2⟩
  refine (hp2.filter _).trans ?_
  rw [List.filter_cons_of_neg (by simp)]
  exact List.Perm.of_eq (List.filter_eq_self.2 fun y hy => decide_eq_true (show y.1 ≠ x.1 from fun e => a1 y hy e.symm))
/-- A sweep of a map on its way. -/
structure SwpE (f : Int) (l ys cs : List EntK) (D : DataW Unit) (left : Lit → Bool) : Prop where
  came : CameE ys left cs
  same : (l.filter (keptE f)).Perm (ys.filter (keptE f))
  kept : ∀ x ∈ cs, keptE f x = true
  holds : Holds16 tk cellE D ys
theorem SwpE.start {f : Int} {l : List EntK} {D : DataW Unit} (h : Holds16 tk cellE D l) : SwpE f l l [] D (Maps.has D) := ⟨CameE.start h, List.Perm.refl _, fun x hx => by simp at hx, h⟩
theorem SwpE.stays {f : Int} {l ys cs : List EntK} {D : DataW Unit} {left left' : Lit → Bool} (h : SwpE f l ys cs D left) {x : EntK} (hx : keptE f x = true) (hc : CameE ys left' (cs ++ [x])) : SwpE f l ys (cs ++ [x]) D left' :=
  ⟨hc, h.same, fun y hy => by
    rcases List.mem_append.1 hy with h1 | h1
    · exact h.kept y h1
    · rw [List.mem_singleton.1 h1]; exact hx, h.holds⟩
theorem SwpE.goes {f : Int} {l ys cs : List EntK} {D : DataW Unit} {left left' : Lit → Bool} (h : SwpE f l ys cs D left) {x : EntK} (hxm : x ∈ ys) (hx : keptE f x = false) (hc : CameE ys left' (cs ++ [x])) : SwpE f l (ys.filter fun y => decide (y.1 ≠ x.1)) cs (D.del (tk.lit x.1)) left' := by
  refine ⟨hc.drop h.holds.apart, ?_, h.kept, h.holds.del (h.holds.fits _ hxm)⟩
  refine h.same.trans (List.Perm.of_eq ?_)
  rw [List.filter_filter]
  refine List.filter_congr fun y hy => ?_
  by_cases e : y.1 = x.1
  · have e2 : y = x := h.holds.one hy hxm e
    rw [e2, hx]; rfl
  · rw [decide_eq_true e, Bool.and_true]
/-- .. struck once more. -/
theorem SwpE.strike {f : Int} {l ys cs : List EntK} {D D0 : DataW Unit} {left : Lit → Bool} {x : EntK} (h : SwpE f l (ys.filter fun y => decide (y.1 ≠ x.1)) cs D left) (hx : x ∈ ys) (h0 : Holds16 tk cellE D0 ys) :
    SwpE f l (ys.filter fun y => decide (y.1 ≠ x.1)) cs D (fun z => left z && !z.sameKey (tk.lit x.1)) := by
  obtain ⟨⟨rest, hp, h1, h2⟩, h3, h4, h5⟩ := h
  have hfx := h0.fits _ hx
  refine ⟨⟨rest, hp, fun y hy => ?_, fun y hy => ?_⟩, h3, h4, h5⟩
  · show (left (tk.lit y.1) && !(tk.lit y.1).sameKey (tk.lit x.1)) = false
    rw [h1 y hy]; rfl
  · show (left (tk.lit y.1) && !(tk.lit y.1).sameKey (tk.lit x.1)) = true
    have hy2 := hp.mem_iff.2 (List.mem_append_right _ hy)
    obtain ⟨hy3, hy4⟩ := List.mem_filter.1 hy2
    rw [h2 y hy, sameKey_ne fun e => (of_decide_eq_true hy4) (tk.lit_one (h0.fits _ hy3) hfx e)]
    rfl
theorem SwpE.ended {f : Int} {l ys cs : List EntK} {D : DataW Unit} {left : Lit → Bool} (h : SwpE f l ys cs D left) (hp : ys.Perm cs) : Holds16 tk cellE D (l.filter (keptE f)) := by
  have e : ys.filter (keptE f) = ys := List.filter_eq_self.2 fun y hy => h.kept y (hp.mem_iff.1 hy)
  have hs := h.same
  rw [e] at hs
  exact h.holds.perm hs.symm
end Go.Proofs.YtgbhfhnbmgkaoaaGreatDoor
