/-
  Texts that came in: what their cells are. No program is run here.
-/
import Derived.Test.YtjijlfohlmhlkaaDoorFrameTold
import Derived.Test.YtjijlfohlmhlkaaDoorOpenBase
namespace Go.Proofs.YtjijlfohlmhlkaaDoor
open Go.RowKit Go.ChangeShapes Go.WideShapes

theorem frame_list_of {α : Type} {P : Nat → α → Prop} : ∀ n : Nat, (∀ i, i < n → ∃ x, P i x) → ∃ xs : List α, xs.length = n ∧ ∀ (i : Nat) (x : α), xs[i]? = some x → P i x
  | 0, _ => ⟨[], rfl, fun i x h => by simp at h⟩
  | n + 1, h => by
    obtain ⟨xs, hl, hx⟩ := frame_list_of n (fun i hi => h i (by omega))
    obtain ⟨x, hp⟩ := h n (by omega)
    refine ⟨xs ++ [x], by simp [hl], fun i y hy => ?_⟩
    by_cases hi : i < xs.length
    · rw [List.getElem?_append_left hi] at hy
      exact hx i y hy
    · have hin : i = n := by
        have := (List.getElem?_eq_some_iff.1 hy).1
        simp at this
        omega
      subst hin
      rw [List.getElem?_append_right (by omega), hl] at hy
      simp at hy
      rw [← hy]
      exact hp
theorem small {n : Nat} (h : n ≤ maxLen) : n ≤ 9223372036854775807 := by unfold maxLen at h; omega
section
variable {H : Type} {enc : TypeId × Value → H} {w : World} {base : Nat} {held : Bool}
set_option maxRecDepth 100000 in
/-- Texts that came in. -/
theorem open_texts {r : Reach} {b0 : Nat} {v : Value} {d : DataW H} {p : List MemPlace} (hv : Value.okWide Tryd.prog w r b0 40 v) (h : DataW.Trod enc Tryd.prog w base (fun _ => true) held 40 v d p) :
    ∃ (xs : List ByteArray) (pp : Option Addr) (cap : Nat), v = .slice pp xs.length cap ∧ xs.length ≤ cap ∧ xs.length ≤ 9223372036854775807 ∧ TextsIn w pp xs ∧ ∀ x ∈ xs, x.size ≤ 9223372036854775807 := by
  obtain ⟨a0, len, cap, rfl⟩ := okWide_slice Tryd.underlying40 hv
  obtain ⟨fuel, hf⟩ := h
  have hc : Tryd.prog.cellsOf 9 = 1 := by kernel_rfl
  rcases DataW.trod_slice Tryd.underlying40 hf with ⟨hcs, _⟩ | ⟨a, len', cap', elems, rest, n, _, hcs, _, _, hl, hm, hlen, hel, _, _⟩
  · simp [Value.cells] at hcs
    obtain ⟨rfl, rfl, rfl⟩ := hcs
    exact ⟨[], none, 0, rfl, by simp, by simp, fun i z hz => by simp at hz, by simp⟩
  · simp [Value.cells] at hcs
    obtain ⟨rfl, rfl, rfl⟩ := hcs
    rw [hc] at hel
    obtain ⟨xs, hxl, hx⟩ := frame_list_of (P := fun i (x : ByteArray) => x.size ≤ 9223372036854775807 ∧ w.cell? ((a.add (i * 1)).add 0) = some (.string x)) len (fun i hi => by
      have he := hel i hi
      rw [show elems[i]? = some (elems[i]'(by omega)) from List.getElem?_eq_getElem (by omega), Option.bind_eq_some_iff] at he
      obtain ⟨cs, h1, h2⟩ := he
      obtain ⟨x, e1, _, hz⟩ := DataW.trod_string Tryd.underlying9 h2
      subst e1
      obtain ⟨_, _, h5⟩ := World.cells?_some h1
      refine ⟨x, small hz, ?_⟩
      rw [h5 0 (by omega)]
      rfl)
    refine ⟨xs, some a, cap, by rw [hxl], by omega, small (by omega), fun i x hi => ?_, fun x hx2 => ?_⟩
    · obtain ⟨_, h2⟩ := hx i x hi
      obtain ⟨b, off, spot⟩ := a
      have hspot : spot = none := by
        have hi0 : 0 < xs.length := Nat.lt_of_le_of_lt (Nat.zero_le i) (List.getElem?_eq_some_iff.1 hi).1
        have := World.cell?_spot (hx 0 (xs[0]'hi0) (List.getElem?_eq_getElem hi0)).2
        simpa [Addr.add] using this
      subst hspot
      rw [add_plain, add_plain] at h2
      exact ⟨b, off, rfl, by simpa using h2⟩
    · obtain ⟨i, hi⟩ := List.getElem?_of_mem hx2
      exact (hx i x hi).1
end
end Go.Proofs.YtjijlfohlmhlkaaDoor
