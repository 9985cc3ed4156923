/-
  A strings.Builder of one's own beside a block that must stay: WriteString, told what it leaves alone. The conditions: those typed.
-/
import Derived.Test.YtaniekpkcihpiaaHoldsS
import Derived.Test.YtaniekpkcihpiaaPutText
namespace Go.Proofs.Ytaniekpkcihpiaa
open Go.RowKit TextNat

theorem holdsS_lt {w : World} {B : Nat} {t : List Nat} (h : HoldsS w B t) : B < w.heap.size := by
  rcases h with h | h
  · exact h.lt
  · exact h.lt
/-- A builder in block B that holds the text s; the block q is none of its. -/
def HoldsQ (w : World) (B q : Nat) (s : ByteArray) : Prop := ∃ p, (p = .pointer none ∨ p = .pointer (some ⟨B, 0, none⟩)) ∧ ∃ a n cap, n = s.size ∧ w.heap[B]? = some (.cells #[p, .slice a n cap] 41 (0, 0)) ∧ w.ownsRow B 5 1 (.slice a n cap) n (Lib.strCells s) ∧ a.map (·.block) ≠ some B ∧ a.map (·.block) ≠ some q
theorem HoldsQ.of {w : World} {B q : Nat} {t : List Nat} (h : HoldsS w B t) (hq : w.heap.size ≤ q) : HoldsQ w B q (txt t) := by
  have key : ∀ p, (p = .pointer none ∨ p = .pointer (some ⟨B, 0, none⟩)) → Lib.BuilderAt 41 5 B B p (Lib.strCells (txt t)) w → HoldsQ w B q (txt t) := by
    intro p hp h
    obtain ⟨h0, v, h1, h2, h3⟩ := h
    rw [Lib.strCells_length] at h2
    obtain ⟨a, cap, rfl⟩ : ∃ a cap, v = .slice a (txt t).size cap := (OwnsM.of h2).shape
    refine ⟨p, hp, a, (txt t).size, cap, rfl, h1, h2, ?_, ?_⟩
    · intro e
      apply h3
      cases a with
      | none => cases e
      | some a => simpa [Value.ownBlock] using e
    · intro e
      have := own_lt h2 q e
      omega
  rcases h with h | h
  · exact key _ (.inl rfl) h
  · exact key _ (.inr rfl) h
theorem HoldsQ.holds {w : World} {B q : Nat} {t : List Nat} (h : HoldsQ w B q (txt t)) : HoldsS w B t := by
  obtain ⟨p, hp, a, n, cap, rfl, h1, h2, h3, h4⟩ := h
  have hb : Lib.BuilderAt 41 5 B B p (Lib.strCells (txt t)) w := by
    refine ⟨Nat.le_refl _, _, h1, by rw [Lib.strCells_length]; exact h2, ?_⟩
    intro e
    apply h3
    cases a with
    | none => simp [Value.ownBlock] at e
    | some a => simpa [Value.ownBlock] using e
  rcases hp with rfl | rfl
  · exact .inl hb
  · exact .inr hb
theorem HoldsQ.below {w w' : World} {B q : Nat} {s : ByteArray} (h : HoldsQ w B q s) (hb : Below w.heap.size w w') : HoldsQ w' B q s := by
  obtain ⟨p, hp, a, n, cap, hn, h1, h2, h3, h4⟩ := h
  exact ⟨p, hp, a, n, cap, hn, (hb.block B (Array.getElem?_eq_some_iff.1 h1).1).trans h1, own_keep h2 (fun k hk => hb.block k (own_lt h2 k hk)), h3, h4⟩
theorem own_up {w : World} {B n cap : Nat} {T : TypeId} {a : Option Addr} {xs : List Value} (h : w.ownsRow 0 T 1 (.slice a n cap) n xs) (hB : ∀ k, a.map (·.block) = some k → B ≤ k) : w.ownsRow B T 1 (.slice a n cap) n xs := by
  refine ⟨h.1, ?_⟩
  rcases h.2 with h2 | ⟨g, cap', cur, h3, h4, h5⟩
  · exact .inl h2
  · refine .inr ⟨g, cap', cur, h3, ?_, h5⟩
    simp at h3
    exact hB g (by rw [h3.1]; rfl)
theorem own_down {w : World} {B n cap : Nat} {T : TypeId} {a : Option Addr} {xs : List Value} (h : w.ownsRow B T 1 (.slice a n cap) n xs) : w.ownsRow 0 T 1 (.slice a n cap) n xs ∧ ∀ k, a.map (·.block) = some k → B ≤ k := by
  rcases h.2 with h2 | ⟨g, cap', cur, h3, h4, h5⟩
  · refine ⟨⟨h.1, .inl h2⟩, fun k hk => ?_⟩
    have := h2.1
    simp at this
    rw [this.1] at hk
    cases hk
  · refine ⟨⟨h.1, .inr ⟨g, cap', cur, h3, Nat.zero_le _, h5⟩⟩, fun k hk => ?_⟩
    simp at h3
    rw [h3.1] at hk
    simp at hk
    omega
theorem copy_check (B : Nat) (p v : Value) (w : World) (hp : p = .pointer none ∨ p = .pointer (some ⟨B, 0, none⟩)) (h : w.heap[B]? = some (.cells #[p, v] 41 (0, 0))) :
    Calls Try.prog 26 #[.pointer (some ⟨B, 0, none⟩)] w fun e w' => e = .returned (.tuple #[]) ∧ w'.heap[B]? = some (.cells #[.pointer (some ⟨B, 0, none⟩), v] 41 (0, 0)) ∧ But B w w' := by
  have c0 : w.cell? ⟨B, 0, none⟩ = some p := by rw [Lib.cell_of_heap h]; rfl
  rcases hp with rfl | rfl
  · refine (Any.Builder_copyCheck_fresh { Try.laysS166 with } Try.BuilderS_Extra_166.toX72 B w c0 (by simp [World.shape?, h]; rfl) (Lib.frozen_of_heap h 0)).mono ?_
    rintro e w' ⟨rfl, rfl⟩
    exact ⟨rfl, heap_setCell_same (i := 0) w B _ _ _ h, But.set B 0 w _⟩
  · refine (Any.Builder_copyCheck_used { Try.laysS166 with } Try.BuilderS_Extra_166.toX72 B w c0).mono ?_
    rintro e w' ⟨rfl, rfl⟩
    exact ⟨rfl, h, But.refl _ _⟩
set_option maxRecDepth 100000 in
set_option maxHeartbeats 4000000 in
theorem put_q (s x : ByteArray) (B q : Nat) (w : World) (h : HoldsQ w B q s) (hl : s.size + x.size ≤ 9000000) (hq : q < w.heap.size) (hqB : q ≠ B) :
    Calls Try.prog 14 #[.pointer (some ⟨B, 0, none⟩), .string x] w fun e w' => (∃ v, e = .returned v) ∧ HoldsQ w' B q (s ++ x) ∧ w'.heap[q]? = w.heap[q]? ∧ Below B w w' := by
  obtain ⟨p, hp, a, n, cap, hn, h1, h2, h3, h4⟩ := h
  have HC := Lib.hid (copy_check B p (.slice a n cap) w hp h1)
  have HO := Lib.hid h2
  have H3 := Lib.hid h3
  have H4 := Lib.hid h4
  have HN := Lib.hid hn
  have HBl := Lib.hid (Array.getElem?_eq_some_iff.1 h1).1
  have HQ := Lib.hid hq
  have HQB := Lib.hid hqB
  clear h1 h2 h3 h4 hp hn hq hqB
  go_enter Try.func14, Try.ntmps14
  go_wp2_with fail
  refine HC.out.mono ?_
  rintro e w1 ⟨rfl, h1, hb⟩
  have HB := Lib.hid hb
  have H1 := Lib.hid h1
  obtain ⟨ho, hB⟩ := own_down HO.out
  have HO1 := Lib.hid (own_keep ho (fun k hk => hb.block k (own_lt HO.out k hk) (fun e => H3.out (by rw [hk, e]))))
  have HBk := Lib.hid hB
  have c1 : w1.cell? ⟨B, 1, none⟩ = some (.slice a n cap) := by rw [Lib.cell_of_heap h1]; rfl
  clear hb ho hB h1
  go_wp2_with (at_builtin; refine put_text rfl _ _ rfl a n cap (nats s) rfl (by rw [← strs_nats]; exact HO1.out) x rfl (by have := HN.out; omega) ?_; intro p' cap' w2 ho hg hw; have HO2 := Lib.hid ho; have HG2 := Lib.hid hg; have HWh := Lib.hid hw; have hBk : w2.heap[B]? = some (.cells #[.pointer (some ⟨B, 0, none⟩), .slice a n cap] 41 (0, 0)) := ((hg.block B (Array.getElem?_eq_some_iff.1 H1.out).1 (fun e => H3.out (by cases a <;> simpa using e.symm))).trans H1.out); have HK2 := Lib.hid hBk; have d0 : w2.cell? ⟨B, 0, none⟩ = some (.pointer (some ⟨B, 0, none⟩)) := (by rw [Lib.cell_of_heap hBk]; rfl); have d1 : w2.cell? ⟨B, 1, none⟩ = some (.slice a n cap) := (by rw [Lib.cell_of_heap hBk]; rfl); have f1 : w2.frozen? ⟨B, 1, none⟩ = false := Lib.frozen_of_heap hBk 1; clear ho hg hw hBk)
  go_ret2
  have hz1 : w.heap.size ≤ w1.heap.size := HB.out.size
  have hne : ∀ k, p'.map (·.block) = some k → k ≠ B ∧ k ≠ q ∧ B ≤ k := fun k hk => by
    have hBl := HBl.out
    have hq := HQ.out
    rcases HWh.out k hk with h | h
    · refine ⟨fun e => H3.out (by rw [h, e]), fun e => H4.out (by rw [h, e]), HBk.out k h⟩
    · exact ⟨by omega, by omega, by omega⟩
  refine ⟨⟨_, rfl⟩, ⟨_, .inr rfl, p', n + x.size, cap', ?_, heap_setCell_same (i := 1) w2 B _ _ _ HK2.out, ?_, ?_, ?_⟩, ?_, ?_⟩
  · rw [ByteArray.size_append, HN.out]
  · rw [strs_nats, nats_append]
    exact own_up (own_keep HO2.out (fun k hk => Below.heap_setCell _ _ _ _ (hne k hk).1)) (fun k hk => (hne k hk).2.2)
  · exact fun e => (hne B e).1 rfl
  · exact fun e => (hne q e).2.1 rfl
  · refine (Below.heap_setCell _ _ _ _ HQB.out).trans ?_
    refine (HG2.out.block q (by have := HQ.out; omega) (fun e => H4.out ?_)).trans (HB.out.block q HQ.out HQB.out)
    rw [e]
  · exact ((HB.out.below (Nat.le_of_lt HBl.out)).grown HG2.out (Nat.le_trans (Nat.le_of_lt HBl.out) hz1) (fun k hk => HBk.out k hk)).setCell (p := ⟨B, 1, none⟩) (Nat.le_refl _) _
end Go.Proofs.Ytaniekpkcihpiaa
