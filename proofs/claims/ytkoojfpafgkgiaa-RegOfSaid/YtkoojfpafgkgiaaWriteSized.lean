/-
  A write that came in: its value is no longer than the form reaches. No program is run here.
-/
import Derived.Test.YtkoojfpafgkgiaaWriteOpen
import Derived.SizedLaws
namespace Go.Proofs.Ytkoojfpafgkgiaa
open Go.RowKit Go.ChangeShapes Go.WideShapes

section
variable {H : Type} {enc : TypeId × Value → H} {w : World} {base : Nat} {held : Bool}
theorem field_is {fs : Array Field} {xs : List (DataW H × List MemPlace)} {cs : List Value} {n : Nat} (hfl : ∀ (i : Nat) (f : Field), fs[i]? = some f → DataW.trod enc Try.prog w base (fun _ => true) held n f.type ((cs.drop f.offset).take (Try.prog.cellsOf f.type)) = xs[i]?)
    (i : Nat) (T : TypeId) (o k : Nat) (hi : (fs[i]?).map (fun f => (f.type, f.offset)) = some (T, o)) (hk : Try.prog.cellsOf T = k) : DataW.trod enc Try.prog w base (fun _ => true) held n T ((cs.drop o).take k) = xs[i]? := by
  obtain ⟨f, hf, he⟩ := Option.map_eq_some_iff.1 hi
  obtain ⟨h1, h2⟩ := Prod.mk.inj he
  have := hfl i f hf
  rw [h1, h2, hk] at this
  exact this
set_option maxRecDepth 100000 in
theorem write_sized {x : WriteV} {d : DataW H} {p : List MemPlace} (h : DataW.Trod enc Try.prog w base (fun _ => true) held 41 x.val d p) (hz : (DataW.weightsEach Try.prog [41] [d]).all (· ≤ reachBytes) = true) : x.value.size ≤ 140737488355328 := by
  obtain ⟨fuel, hf⟩ := h
  obtain ⟨xs, n, _, hx, _, hlen, hfl⟩ := DataW.trod_struct Try.underlying41 hf
  have hlen9 : xs.length = 9 := hlen
  obtain ⟨y, hy⟩ : ∃ y, xs[6]? = some y := ⟨_, List.getElem?_eq_getElem (by omega)⟩
  have g := (field_is hfl 6 9 7 1 rfl (by kernel_rfl)).trans hy
  obtain ⟨s, e1, e2, _⟩ := DataW.trod_string Try.underlying9 g
  have hs : s = x.value := by
    obtain ⟨x0, x1, x2, x3, x4, x5, x6, x7, x8, x9, x10, x11⟩ := x
    have : [Value.string x9] = [Value.string s] := e1
    simpa using this.symm
  subst hs
  obtain ⟨rfl, _⟩ := Prod.mk.inj hx
  have hd : (xs.map (·.1))[6]? = some (.lit (.string x.value.data.toList)) := by rw [List.getElem?_map, hy, e2]; rfl
  have h3 : (DataW.weights Try.prog 41 (.agg (xs.map (·.1)))).all (· ≤ reachBytes) = true := by
    rw [List.all_eq_true] at hz ⊢
    exact fun n hn => hz n (DataW.weights_mem_each (j := 0) rfl rfl n hn)
  unfold DataW.weights at h3
  rw [Try.underlying41] at h3
  have h4 := sized_string h3 (j := 6) (t := 9) rfl hd
  have h5 := reachBytes_lt
  have h6 : x.value.data.toList.length = x.value.size := by simp
  omega
end
end Go.Proofs.Ytkoojfpafgkgiaa
