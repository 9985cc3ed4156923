/-
  The contract of Same: two lists of the same texts are alike. The condition: the lists' cells are told.
-/
import Derived.Test.YtmbjcgmcjackfaaDoorTrail
import Derived.Deep.QuietTactic
import Derived.BigQuiet
namespace Go.Proofs.YtmbjcgmcjackfaaDoor
open Go.RowKit Go.Extern.Stop Go.Stop Go.Extern

theorem below_drewN {B : Nat} {a w : World} (h : Below B a w) (n : Nat) : Below B a (w.drewN n) := ⟨h.os, h.tape, h.output, h.size, h.block⟩

theorem same_none (p q : Option Addr) (c d : Nat) (w : World) :
    Calls Tryd.prog 13 #[.slice p 0 c, .slice q 0 d] w fun e w' => e = .returned (.bool true) ∧ Below w.heap.size w w' := by
  go_enter Tryd.func13, Tryd.ntmps13
  go_wp2
  go_rounds 1
  go_ret
  exact ⟨rfl, Below.refl _ _⟩

set_option maxRecDepth 100000 in
set_option maxHeartbeats 4000000 in
theorem same_some (m : List Wrap) (g h c d : Nat) (w : World) (hm : m.length ≤ 100)
    (h1 : ∀ (k : Nat) (x : Wrap), m[k]? = some x → w.cell? ⟨g, k, none⟩ = some (.string x.1)) (h2 : ∀ (k : Nat) (x : Wrap), m[k]? = some x → w.cell? ⟨h, k, none⟩ = some (.string x.1)) :
    Calls Tryd.prog 13 #[.slice (some ⟨g, 0, none⟩) m.length c, .slice (some ⟨h, 0, none⟩) m.length d] w fun e w' => e = .returned (.bool true) ∧ Below w.heap.size w w' := by
  have H1 := Lib.hid h1
  have H2 := Lib.hid h2
  clear h1 h2
  go_enter Tryd.func13, Tryd.ntmps13
  go_wp2
  go_loopg [5] m.length (fun g s5 wx => ∃ k : Nat, k + g = m.length ∧ s5 = .int .i64 k ∧ Below w.heap.size w wx)
  case atStart => exact ⟨0, by omega, by go_num, Below.refl _ _⟩
  case round =>
    obtain ⟨k, hk, rfl, hb⟩ := hrel
    by_cases hlt : k < m.length
    · have c1 := H1.out k _ (List.getElem?_eq_getElem hlt)
      have c2 := H2.out k _ (List.getElem?_eq_getElem hlt)
      have l1 := cell_lt c1
      have l2 := cell_lt c2
      have g1 := (hb.cell (p := ⟨g, k, none⟩) l1).trans c1
      have g2 := (hb.cell (p := ⟨h, k, none⟩) l2).trans c2
      obtain ⟨s, hs⟩ : ∃ s, s = m[k].1 := ⟨_, rfl⟩
      rw [← hs] at g1 g2
      clear c1 c2 hs
      go_wp2_with fail
      go_quiet (fail)
      go_wp2
      go_roundg (m.length - (k + 1))
      case measure => omega
      case rel => exact ⟨k + 1, by omega, by go_num, below_drewN hb nq⟩
    · have d1 : decide (k < m.length) = false := by simp; omega
      clear hlt
      go_wp2
      go_ret
      exact ⟨rfl, hb⟩

theorem texts_at (m : List Wrap) (k : Nat) (x : Wrap) (h : m[k]? = some x) : (texts m)[k]? = some (.string x.1) := by
  simp only [texts, List.getElem?_map, h, Option.map_some]

theorem same_own (m : List Wrap) (v u : Value) (B B' : Nat) (w : World) (hm : m.length ≤ 100) (h1 : w.ownsRow B 9 1 v m.length (texts m)) (h2 : w.ownsRow B' 9 1 u m.length (texts m)) :
    Calls Tryd.prog 13 #[v, u] w fun e w' => e = .returned (.bool true) ∧ Below w.heap.size w w' := by
  rcases h1.2 with ⟨rfl, h0⟩ | ⟨g, c, cur, rfl, _⟩
  · obtain ⟨q, d, rfl⟩ := own_shape h2
    rw [h0]
    exact same_none _ _ _ _ w
  · rcases h2.2 with ⟨rfl, h0⟩ | ⟨h, d, cur', rfl, _⟩
    · rw [h0]
      exact same_none _ _ _ _ w
    · refine same_some m g h c d w hm (fun k x hk => ?_) (fun k x hk => ?_)
      · rw [h1.cellAt k (by have := (List.getElem?_eq_some_iff.1 hk).1; omega)]; exact texts_at m k x hk
      · rw [h2.cellAt k (by have := (List.getElem?_eq_some_iff.1 hk).1; omega)]; exact texts_at m k x hk
end Go.Proofs.YtmbjcgmcjackfaaDoor
