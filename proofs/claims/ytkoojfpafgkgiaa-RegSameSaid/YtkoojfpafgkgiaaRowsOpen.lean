/-
  A slice of structs that came in, generally; an array of two. No program is run here.
-/
import Derived.Test.YtkoojfpafgkgiaaOpenBase
namespace Go.Proofs.Ytkoojfpafgkgiaa
open Go.RowKit Go.ChangeShapes Go.WideShapes

theorem rows_list_of {α : Type} {P : Nat → α → Prop} : ∀ n : Nat, (∀ i, i < n → ∃ x, P i x) → ∃ xs : List α, xs.length = n ∧ ∀ (i : Nat) (x : α), xs[i]? = some x → P i x
  | 0, _ => ⟨[], rfl, fun i x h => by simp at h⟩
  | n + 1, h => by
    obtain ⟨xs, hl, hx⟩ := rows_list_of n (fun i hi => h i (by omega))
    obtain ⟨x, hp⟩ := h n (by omega)
    refine ⟨xs ++ [x], by simp [hl], fun i y hy => ?_⟩
    by_cases hi : i < xs.length
    · rw [List.getElem?_append_left hi] at hy
      exact hx i y hy
    · have hin : i = n := by
        have := (List.getElem?_eq_some_iff.1 hy).1
        simp at this
        omega
      subst hin
      rw [List.getElem?_append_right (by omega), hl] at hy
      simp at hy
      rw [← hy]
      exact hp
section
variable {H : Type} {enc : TypeId × Value → H} {w : World} {base : Nat} {held : Bool}
/-- A slice among the cells of what came in. -/
theorem rows_cells {α : Type} {T e : TypeId} {k : Nat} {cells : α → List Value} {Q : α → Prop} (ht : Try.prog.underlying T = some (.slice e)) (hk : Try.prog.cellsOf e = k) (h0 : 0 < k) (hlen : ∀ x, (cells x).length = k)
    (hcell : ∀ {fuel : Nat} {cs : List Value} {y : DataW H × List MemPlace}, DataW.trod enc Try.prog w base (fun _ => true) held fuel e cs = some y → ∃ x : α, cs = cells x ∧ Q x)
    {fuel : Nat} {cs : List Value} {y : DataW H × List MemPlace} (hf : DataW.trod enc Try.prog w base (fun _ => true) held fuel T cs = some y) :
    ∃ (xs : List α) (pp : Option Addr) (cap : Nat), cs = [.slice pp xs.length cap] ∧ xs.length ≤ cap ∧ cap ≤ maxLen ∧ (∀ (i : Nat) (x : α), xs[i]? = some x → ∃ b off, pp = some ⟨b, off, none⟩ ∧ ∀ (j : Nat) (u : Value), (cells x)[j]? = some u → w.cell? ⟨b, off + (i * k + j), none⟩ = some u) ∧ (∀ x ∈ xs, Q x) ∧ (pp = none → cap = 0) := by
  rcases DataW.trod_slice ht hf with ⟨hcs, _⟩ | ⟨a, len, cap, elems, rest, n, _, hcs, _, _, hl, hm, hlen2, hel, _, _⟩
  · exact ⟨[], none, 0, hcs, by simp, by unfold maxLen; omega, fun i z hz => by simp at hz, by simp, fun _ => rfl⟩
  · rw [hk] at hel
    obtain ⟨xs, hxl, hx⟩ := rows_list_of (P := fun i (x : α) => Q x ∧ ∀ (j : Nat) (u : Value), (cells x)[j]? = some u → w.cell? ((a.add (i * k)).add j) = some u) len (fun i hi => by
      have he := hel i hi
      rw [show elems[i]? = some (elems[i]'(by omega)) from List.getElem?_eq_getElem (by omega), Option.bind_eq_some_iff] at he
      obtain ⟨cs2, h1, h2⟩ := he
      obtain ⟨x, rfl, hz⟩ := hcell h2
      obtain ⟨_, _, h5⟩ := World.cells?_some h1
      refine ⟨x, hz, fun j u hj => ?_⟩
      have hjk : j < k := by rw [← hlen x]; exact (List.getElem?_eq_some_iff.1 hj).1
      rw [h5 j hjk, hj])
    refine ⟨xs, some a, cap, by rw [hxl]; exact hcs, by omega, hm, fun i x hi => ?_, fun x hx2 => ?_, fun h => by cases h⟩
    · obtain ⟨_, h2⟩ := hx i x hi
      obtain ⟨b, off, spot⟩ := a
      have hspot : spot = none := by
        have hi0 : 0 < xs.length := Nat.lt_of_le_of_lt (Nat.zero_le i) (List.getElem?_eq_some_iff.1 hi).1
        have hc0 : 0 < (cells (xs[0]'hi0)).length := by rw [hlen]; exact h0
        have := World.cell?_spot ((hx 0 (xs[0]'hi0) (List.getElem?_eq_getElem hi0)).2 0 _ (List.getElem?_eq_getElem hc0))
        simpa [Addr.add] using this
      subst hspot
      refine ⟨b, off, rfl, fun j u hj => ?_⟩
      have := h2 j u hj
      rw [add_plain, add_plain, Nat.add_assoc] at this
      exact this
    · obtain ⟨i, hi⟩ := List.getElem?_of_mem hx2
      exact (hx i x hi).1
theorem wf_ten16 {z : Int} (h : (Lit.int .u16 z).wf = true) : 0 ≤ z ∧ z < 65536 := by
  simp [Lit.wf, IntKind.min, IntKind.max, IntKind.signed, IntKind.bits] at h
  omega
theorem small_len {n : Nat} (h : n ≤ maxLen) : n ≤ 9223372036854775807 := by unfold maxLen at h; omega
/-- An array of two among the cells. -/
theorem cell_two {T e : TypeId} {c0 c1 : Value} {fuel : Nat} {y : DataW H × List MemPlace} (ht : Try.prog.underlying T = some (.array 2 e)) (hk : Try.prog.cellsOf e = 1) (hf : DataW.trod enc Try.prog w base (fun _ => true) held fuel T [c0, c1] = some y) :
    (∃ m z, DataW.trod enc Try.prog w base (fun _ => true) held m e [c0] = some z) ∧ ∃ m z, DataW.trod enc Try.prog w base (fun _ => true) held m e [c1] = some z := by
  obtain ⟨xs, m, _, _, _, hl, hx⟩ := DataW.trod_array ht hf
  rw [hk] at hx
  exact ⟨⟨m, xs[0]'(by omega), (hx 0 (by omega)).trans (List.getElem?_eq_getElem (by omega))⟩, ⟨m, xs[1]'(by omega), (hx 1 (by omega)).trans (List.getElem?_eq_getElem (by omega))⟩⟩
end
end Go.Proofs.Ytkoojfpafgkgiaa
