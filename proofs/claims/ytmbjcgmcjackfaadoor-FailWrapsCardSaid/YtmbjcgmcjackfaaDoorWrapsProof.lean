/-
  FailWraps, proved: for every code, slice of wraps and other code it returns true and leaves them as they were. The condition, tied to the program's text by the card: errors.errorType reads as it is laid.
-/
import Derived.Test.YtmbjcgmcjackfaaDoorLaid
import Derived.Test.YtmbjcgmcjackfaaDoorWraps
import Derived.Deep.SlicePairs
namespace Go.Proofs.YtmbjcgmcjackfaaDoor
open Go.ChangeShapes Go.WideShapes Go.RowKit Go.ChangeMaps Go.Deep

theorem cells33 : Tryd.prog.cellsOf 33 = 2 := by kernel_rfl
theorem cells9 : Tryd.prog.cellsOf 9 = 1 := by kernel_rfl
theorem cells3 : Tryd.prog.cellsOf 3 = 1 := by kernel_rfl
theorem laidOut : laidOutB Tryd.prog = true := by kernel_rfl

/-- The text that a value is, the number that a value is. -/
def textOf : Value → ByteArray | .string s => s | _ => ByteArray.empty

set_option maxRecDepth 100000 in
/-- A slice of wraps that came in: empty, or at an address, with its cells. -/
theorem open_wraps {H : Type} {enc : TypeId × Value → H} {W : World} {b0 : Nat} {v : Value} {d : DataW H} {ps : List MemPlace} (hval : Value.okWide Tryd.prog W .any b0 22 v)
    (h : DataW.Trod enc Tryd.prog W 0 (fun _ => true) true 22 v d ps) :
    (∃ p cap, v = .slice p 0 cap) ∨ ∃ (b off cap : Nat) (x : Wrap) (l : List Wrap), v = .slice (some ⟨b, off, none⟩) (x :: l).length cap ∧
      ∀ (k : Nat) (y : Wrap), (x :: l)[k]? = some y → W.cell? ⟨b, off + k * 2, none⟩ = some (.string y.1) ∧ W.cell? ⟨b, off + k * 2 + 1, none⟩ = some (.int .i64 y.2) := by
  obtain ⟨p, len, cap, rfl⟩ := okWide_slice Tryd.underlying22 hval
  obtain ⟨fuel, hf⟩ := h
  rcases open_slice_pairs Tryd.underlying22 Tryd.underlying33 cells33 rfl rfl cells9 cells3 hf with ⟨hc, _⟩ | ⟨a, len', cap', m, n, V0, V1, D0, D1, P0, P1, hc, _, hl, _, hm, _, hall⟩
  · simp only [Value.cells, List.cons.injEq, and_true] at hc
    exact .inl ⟨none, 0, hc⟩
  · simp only [Value.cells, List.cons.injEq, and_true] at hc
    simp only [if_true] at hm
    subst hm
    rw [hc]
    cases len' with
    | zero => exact .inl ⟨_, _, rfl⟩
    | succ len' =>
      refine .inr ?_
      obtain ⟨b, off, spot⟩ := a
      have hspot : spot = none := by simpa [Addr.add] using World.cell?_spot (hall 0 (by omega)).1
      subst hspot
      have key : ∀ i, i < m → W.cell? ⟨b, off + i * 2, none⟩ = some (.string (textOf (V0 i))) ∧ W.cell? ⟨b, off + i * 2 + 1, none⟩ = some (.int .i64 (intOf (V1 i))) := fun i hi => by
        obtain ⟨c0, c1, t0, t1⟩ := hall i hi
        obtain ⟨s, e0, _, _⟩ := DataW.trod_string Tryd.underlying9 t0
        obtain ⟨q, e1, _, _⟩ := DataW.trod_int Tryd.underlying3 t1
        simp only [List.cons.injEq, and_true] at e0 e1
        rw [add_plain] at c0 c1
        rw [← Nat.add_assoc] at c1
        rw [c0, c1, e0, e1]
        exact ⟨rfl, rfl⟩
      have hlen : ((List.range (len' + 1)).map fun i => ((textOf (V0 i), intOf (V1 i)) : Wrap)).length = len' + 1 := by simp
      obtain ⟨x, l, hxl⟩ : ∃ x l, ((List.range (len' + 1)).map fun i => ((textOf (V0 i), intOf (V1 i)) : Wrap)) = x :: l := by
        cases hq : ((List.range (len' + 1)).map fun i => ((textOf (V0 i), intOf (V1 i)) : Wrap)) with
        | nil => rw [hq] at hlen; simp at hlen
        | cons x l => exact ⟨x, l, rfl⟩
      rw [hxl] at hlen
      refine ⟨b, off, m, x, l, by rw [hlen], fun k y hk => ?_⟩
      rw [← hxl] at hk
      obtain ⟨hkl, hk2⟩ := List.getElem?_eq_some_iff.1 hk
      simp only [List.length_map, List.length_range] at hkl
      simp only [List.getElem_map, List.getElem_range] at hk2
      subst hk2
      exact key k (by omega)

/-- FailWraps returns true, whatever it is given. -/
theorem wraps_true (c other : Int) (v : Value) (w : World) (hg : Handle w)
    (hv : (∃ p cap, v = .slice p 0 cap) ∨ ∃ (b off cap : Nat) (x : Wrap) (l : List Wrap), v = .slice (some ⟨b, off, none⟩) (x :: l).length cap ∧
      ∀ (k : Nat) (y : Wrap), (x :: l)[k]? = some y → w.cell? ⟨b, off + k * 2, none⟩ = some (.string y.1) ∧ w.cell? ⟨b, off + k * 2 + 1, none⟩ = some (.int .i64 y.2)) :
    Calls Tryd.prog 3 #[.int .i64 c, v, .int .i64 other] w fun e w' => e = .returned (.bool true) ∧ Below w.heap.size w w' := by
  have hco : ∀ a b : Int, (b == a) = (a == b) := fun a b => by
    by_cases h : a = b
    · subst h; rfl
    · rw [beq_eq_false_iff_ne.2 h, beq_eq_false_iff_ne.2 (Ne.symm h)]
  rcases hv with ⟨p, cap, rfl⟩ | ⟨b, off, cap, x, l, rfl, hl⟩
  · by_cases hc : c = 0
    · subst hc
      exact wraps_zero other p 0 cap w hg (by omega) fun w0 _ => (wrapped_none p cap w0).mono fun e w' ⟨he, hw⟩ => ⟨he, hw ▸ Below.refl _ _⟩
    · exact wraps_bare c other hc p cap w hg (c == other) rfl (hco c other)
  · by_cases hbig : 200 < (x :: l).length
    · exact wraps_big c other _ _ cap w hg hbig
    · by_cases hc : c = 0
      · subst hc
        have hbl : b < w.heap.size := cell_lt (hl 0 x rfl).1
        exact wraps_zero other _ _ cap w hg (by omega) fun w0 hb => wrapped_zero (x :: l) b off cap w0 (by omega) fun k y hk =>
          ⟨(hb.cell (p := ⟨b, off + k * 2, none⟩) hbl).trans (hl k y hk).1, (hb.cell (p := ⟨b, off + k * 2 + 1, none⟩) hbl).trans (hl k y hk).2⟩
      · exact wraps_some c other hc x l b off cap w hg (by omega) (c == other) rfl (hco c other) hl

set_option maxRecDepth 100000 in
theorem wraps_lifted (os : Os) (started : os.Started) (H : Type) (enc : TypeId × Value → H) :
    ReturnsInHanded {} Tryd.checked os 3 .any (fun w args => (Rows.failWrapsSpec.pre enc Tryd.prog Tryd.f3 [] false w args ∧ laidMetH Tryd.prog laidList w) ∧ sizedMet enc Tryd.prog Tryd.f3 (OpenSpec.ofChange Rows.failWrapsSpec) false w args)
      (Rows.failWrapsSpec.post enc Tryd.prog Tryd.f3 false true false false) := by
  refine returnsInHanded_of_change_and (C := Tryd.checked) (X := fun w _ => laidMetH Tryd.prog laidList w) (fun _ _ _ hh h => h.of_heap hh) ownNone started (by kernel_rfl) Tryd.func3
    (ChangeSpec.witness_at (enc := enc) (C := Tryd.checked) (os := os) (X := fun w _ => laidMetH Tryd.prog laidList w) false (laidWorld os) #[.int .i64 0, .slice none 0 0, .int .i64 0] 8 rfl (by kernel_rfl) (by kernel_rfl) (by kernel_rfl) (by kernel_rfl) (by kernel_rfl) (laidWorld_met os _)) ?_
  intro W base args ds gs before hval0 hW _ _ hL _
  have hval : ∀ (j : Nat) t v, Tryd.f3.params[j]? = some t → args[j]? = some v → Value.okWide Tryd.prog W .any base t v := hval0
  have hW' := hW
  obtain ⟨p, q, hA0, hV, rfl, hfz, hnd⟩ := hW
  have hA : DataW.TrodAll enc Tryd.prog W 0 (fun _ => true) true Tryd.f3.params.toList args.toList ds p := hA0
  rw [Tryd.params3] at hA hval
  obtain ⟨v0, v1, v2, d0, d1, d2, p0, p1, p2, rfl, rfl, rfl, h0, h1, h2⟩ := trodAll_three hA
  obtain ⟨rfl, rfl⟩ := trodVars_none hV
  obtain ⟨c, rfl, rfl, rfl, wc⟩ := open_int Tryd.underlying3 (hval 0 3 v0 rfl rfl) h0
  obtain ⟨o, rfl, rfl, rfl, wo⟩ := open_int Tryd.underlying3 (hval 2 3 v2 rfl rfl) h2
  have hv := open_wraps (hval 1 22 v1 rfl rfl) h1
  have hg := handle_of_laid hL
  clear hA0 hval0 hL
  simp only [List.append_nil, List.nil_append] at hW'
  have hlt : ∀ x ∈ p1, x.block < W.heap.size := fun x hx => by simpa using hW'.lt x hx
  refine (wraps_true c o v1 W hg hv).mono fun e W' ⟨he, hb⟩ => ?_
  subst he
  have e1 : Rows.failWrapsSpec.fn H ([.lit (.int .i64 c), d1, .lit (.int .i64 o)] ++ []) = { results := [.lit (.bool true)], args := [.lit (.int .i64 c), d1, .lit (.int .i64 o)] } := by simp [Rows.failWrapsSpec]
  have ht := Below.trod laidOut (by kernel_rfl) (of_decide_eq_true (by kernel_rfl)) h1 hb hlt
  refine ⟨_, rfl, _, _, _, [], p1, [], hW', ?_, ?_, ?_, hb.frame _, fun h => by cases h⟩
  · rw [e1]; exact trodAll_mk1 (shut_bool Tryd.underlying4 true)
  · rw [e1]
    have := trodAll_mk3 (shut_int (w := W') (base := 0) (spare := fun b => decide (b < W.heap.size)) (held := true) (enc := enc) Tryd.underlying3 wc) ht (shut_int Tryd.underlying3 wo)
    simp only [List.append_nil, List.nil_append] at this
    exact this
  · rw [e1]; rfl

theorem wraps_said : Rows.FailWrapsSaid :=
  OpenClaim.holds_of_wide 3 Tryd.f3 rfl rfl rfl rfl rfl rfl rfl ⟨rfl, rfl, rfl, rfl, rfl⟩ rfl rfl rfl rfl rfl (by kernel_rfl) Tryd.func3 (by kernel_rfl)
    (of_decide_eq_true (by kernel_rfl)) (by unfold Func.isWrapper; rw [if_neg (of_decide_eq_false (by kernel_rfl))]; exact ⟨rfl, rfl⟩)
    (fun os started H enc _ => wraps_lifted os started H enc)
end Go.Proofs.YtmbjcgmcjackfaaDoor
