/-
  The contract of wrapped: the chain of the wraps that a slice holds, around a code; nothing, where the code is 0. The condition: the slice's cells are told.
-/
import Derived.Test.YtmbjcgmcjackfaaDoorAs
import Derived.StillTailTactics
import Derived.Deep.LoopGhost
namespace Go.Proofs.YtmbjcgmcjackfaaDoor
open Go.RowKit Go.Extern.Stop Go.Stop Go.Extern

/-- The slice value 'v' holds the wraps l, in old memory. -/
def Holds (w : World) (v : Value) (l : List Wrap) : Prop :=
  ∃ p cap, v = .slice p l.length cap ∧ l.length ≤ 140737488351232 ∧ ∀ (k : Nat) (x : Wrap), l[k]? = some x → ∃ b off, p = some ⟨b, off, none⟩ ∧ w.cell? ⟨b, off + k * 2, none⟩ = some (.string x.1) ∧ w.cell? ⟨b, off + k * 2 + 1, none⟩ = some (.int .i64 x.2)

def Made (l : List Wrap) (c : Int) (w : World) (e : Ending) (w' : World) : Prop :=
  ∃ v, e = .returned v ∧ Chain w'.heap.size w' l (.iface 35 (.int .i64 c)) v ∧ Below w.heap.size w w'

set_option maxHeartbeats 4000000 in
set_option maxRecDepth 100000 in
theorem wrapped_some (c : Int) (hc0 : c ≠ 0) (l : List Wrap) (b off cap : Nat) (w : World) (hm : l.length ≤ 140737488351232)
    (hl : ∀ (k : Nat) (x : Wrap), l[k]? = some x → w.cell? ⟨b, off + k * 2, none⟩ = some (.string x.1) ∧ w.cell? ⟨b, off + k * 2 + 1, none⟩ = some (.int .i64 x.2)) :
    Calls Tryd.prog 7 #[.int .i64 c, .slice (some ⟨b, off, none⟩) l.length cap] w (Made l c w) := by
  have HL := Lib.hid hl
  have d0 := beq_eq_false_iff_ne.2 hc0
  have d1 : (c != 0) = true := by rw [bne_iff_ne]; exact hc0
  clear hl hc0
  go_enter Tryd.func7, Tryd.ntmps7
  go_wp2
  go_loopg [5, 6] l.length (fun k s5 s6 wx => k ≤ l.length ∧ (∃ i : Int, s6 = .int .i64 i ∧ Hid (i + 1 = (k : Int))) ∧ Hid (Chain wx.heap.size wx (l.drop k) (.iface 35 (.int .i64 c)) s5) ∧ Below w.heap.size w wx)
  case atStart => exact ⟨Nat.le_refl _, ⟨_, rfl, Lib.hid (by omega)⟩, Lib.hid (by rw [List.drop_length]; rfl), Below.refl _ _⟩
  case round =>
    obtain ⟨hk, ⟨i, rfl, hi⟩, hc, hb⟩ := hrel
    cases gk with
    | zero =>
      obtain rfl : i = -1 := by have := hi.out; omega
      clear hi
      go_wp2
      go_ret
      exact ⟨u5, rfl, by simpa using hc.out, hb⟩
    | succ k =>
      obtain rfl : i = (k : Int) := by have := hi.out; omega
      clear hi
      go_wp2_with fail
      have hkl : k < l.length := by omega
      obtain ⟨c0, c1⟩ := HL.out k _ (List.getElem?_eq_getElem hkl)
      have hbl := cell_lt c0
      have g0 : wr.cell? ⟨b, off + k * 2, none⟩ = some (.string l[k].1) := (hb.cell (p := ⟨b, off + k * 2, none⟩) hbl).trans c0
      have g1 : wr.cell? ⟨b, off + k * 2 + 1, none⟩ = some (.int .i64 l[k].2) := (hb.cell (p := ⟨b, off + k * 2 + 1, none⟩) hbl).trans c1
      obtain ⟨s, hs⟩ : ∃ s, s = l[k].1 := ⟨_, rfl⟩
      obtain ⟨n, hn⟩ : ∃ n, n = l[k].2 := ⟨_, rfl⟩
      rw [← hs] at g0
      rw [← hn] at g1
      obtain ⟨T, x, hu⟩ := hc.out.some
      subst hu
      have HD := Lib.hid (show l.drop k = (s, n) :: l.drop (k + 1) by rw [List.drop_eq_getElem_cons hkl, hs, hn])
      have b0 : (0 : Int) ≤ (k : Int) := by omega
      have b1 : (k : Int) < (l.length : Int) := by omega
      clear c0 c1 hs hn hk
      go_still_tail 11, (by kernel_rfl)
      change wpList Tryd.prog _ _ _ _ wr.drew
      go_wp2_with (go_at_call 17; refine (at_some s n T x _).mono ?_; rintro e w' ⟨rfl, rfl⟩)
      go_roundg k
      case measure => omega
      case rel =>
        have hz := hb.size
        have HB : Below wr.heap.size wr (wr.alloc (.cells #[.string s, .int .i64 n, .iface T x] 44)).drew := ((Below.refl _ _).alloc (Nat.le_refl _) _).drew
        refine ⟨by omega, ⟨_, rfl, Lib.hid (by omega)⟩, Lib.hid ?_, hb.trans (HB.mono hz)⟩
        rw [HD.out]
        exact ⟨wr.heap.size, .iface T x, rfl, by simp, by simp, by simp, by simp, hc.out.mono HB (by simp)⟩

set_option maxRecDepth 100000 in
theorem wrapped_zero (l : List Wrap) (b off cap : Nat) (w : World) (hm : l.length ≤ 140737488351232)
    (hl : ∀ (k : Nat) (x : Wrap), l[k]? = some x → w.cell? ⟨b, off + k * 2, none⟩ = some (.string x.1) ∧ w.cell? ⟨b, off + k * 2 + 1, none⟩ = some (.int .i64 x.2)) :
    Calls Tryd.prog 7 #[.int .i64 0, .slice (some ⟨b, off, none⟩) l.length cap] w fun e w' => e = .returned .nilIface ∧ Below w.heap.size w w' := by
  have HL := Lib.hid hl
  clear hl
  go_enter Tryd.func7, Tryd.ntmps7
  go_wp2
  go_loopg [5, 6] l.length (fun k s5 s6 wx => k ≤ l.length ∧ (∃ i : Int, s6 = .int .i64 i ∧ Hid (i + 1 = (k : Int))) ∧ s5 = .nilIface ∧ Below w.heap.size w wx)
  case atStart => exact ⟨Nat.le_refl _, ⟨_, rfl, Lib.hid (by omega)⟩, rfl, Below.refl _ _⟩
  case round =>
    obtain ⟨hk, ⟨i, rfl, hi⟩, rfl, hb⟩ := hrel
    cases gk with
    | zero =>
      obtain rfl : i = -1 := by have := hi.out; omega
      clear hi
      go_wp2
      go_ret
      exact ⟨rfl, hb⟩
    | succ k =>
      obtain rfl : i = (k : Int) := by have := hi.out; omega
      clear hi
      go_wp2_with fail
      have hkl : k < l.length := by omega
      obtain ⟨c0, c1⟩ := HL.out k _ (List.getElem?_eq_getElem hkl)
      have hbl := cell_lt c0
      have g0 : wr.cell? ⟨b, off + k * 2, none⟩ = some (.string l[k].1) := (hb.cell (p := ⟨b, off + k * 2, none⟩) hbl).trans c0
      have g1 : wr.cell? ⟨b, off + k * 2 + 1, none⟩ = some (.int .i64 l[k].2) := (hb.cell (p := ⟨b, off + k * 2 + 1, none⟩) hbl).trans c1
      obtain ⟨s, hs⟩ : ∃ s, s = l[k].1 := ⟨_, rfl⟩
      obtain ⟨n, hn⟩ : ∃ n, n = l[k].2 := ⟨_, rfl⟩
      rw [← hs] at g0
      rw [← hn] at g1
      have b0 : (0 : Int) ≤ (k : Int) := by omega
      have b1 : (k : Int) < (l.length : Int) := by omega
      clear c0 c1 hs hn hk
      go_still_tail 11, (by kernel_rfl)
      change wpList Tryd.prog _ _ _ _ wr.drew
      go_wp2_with (go_at_call 17; refine (at_none s n _).mono ?_; rintro e w' ⟨rfl, rfl⟩)
      go_roundg k
      case measure => omega
      case rel =>
        exact ⟨by omega, ⟨_, rfl, Lib.hid (by omega)⟩, rfl, hb.drew⟩

theorem wrapped_empty (c : Int) (hc0 : c ≠ 0) (p : Option Addr) (cap : Nat) (w : World) :
    Calls Tryd.prog 7 #[.int .i64 c, .slice p 0 cap] w fun e w' => e = .returned (.iface 35 (.int .i64 c)) ∧ w' = w := by
  have d0 := beq_eq_false_iff_ne.2 hc0
  have d1 : (c != 0) = true := by rw [bne_iff_ne]; exact hc0
  clear hc0
  go_enter Tryd.func7, Tryd.ntmps7
  go_wp2
  go_rounds 1
  go_ret
  exact ⟨rfl, rfl⟩

theorem wrapped_none (p : Option Addr) (cap : Nat) (w : World) :
    Calls Tryd.prog 7 #[.int .i64 0, .slice p 0 cap] w fun e w' => e = .returned .nilIface ∧ w' = w := by
  go_enter Tryd.func7, Tryd.ntmps7
  go_wp2
  go_rounds 1
  go_ret
  exact ⟨rfl, rfl⟩
end Go.Proofs.YtmbjcgmcjackfaaDoor
