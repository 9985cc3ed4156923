/-
  The contract of fail's Trail: the texts of a chain's wraps, a hundred at most, in new memory. The condition: the variable errors.errorType reads as the type error's own handle.
-/
import Derived.Test.YtmbjcgmcjackfaaDoorNumber
import Derived.Deep.LoopGhost
import Derived.OwnWalk
namespace Go.Proofs.YtmbjcgmcjackfaaDoor
open Go.RowKit Go.Extern.Stop Go.Stop Go.Extern

theorem info9 : (Tryd.prog.info? 9).map (fun i => (i.zero, i.size, i.bytes)) = some (some (.string ByteArray.empty), 1, 16) := by kernel_rfl

/-- The texts of wraps. -/
def texts (l : List Wrap) : List Value := l.map fun x => .string x.1

theorem texts_succ (l : List Wrap) (k : Nat) (h : k < l.length) : texts (l.take (k + 1)) = texts (l.take k) ++ [.string l[k].1] := by
  rw [List.take_succ_eq_append_getElem h]
  simp only [texts, List.map_append, List.map_cons, List.map_nil]

theorem grown_of_below {w w' : World} (h : Below w.heap.size w w') : w.grownBy w' none := ⟨h.os, h.tape, h.output, h.size, fun k hk _ => h.block k hk⟩
theorem own_any (o : Option Nat) : o = none ∨ o ≠ none := by cases o <;> simp
theorem own_shape {w : World} {base : Nat} {e : TypeId} {size : Nat} {v : Value} {n : Nat} {xs : List Value} (h : w.ownsRow base e size v n xs) : ∃ p cap, v = .slice p n cap := by
  rcases h.2 with ⟨rfl, rfl⟩ | ⟨g, cap, cur, rfl, _⟩
  · exact ⟨_, _, rfl⟩
  · exact ⟨_, _, rfl⟩

/-- What Trail leaves: the texts of at most a hundred wraps. -/
def Trailed (l : List Wrap) (w : World) (e : Ending) (w' : World) : Prop :=
  ∃ v, e = .returned v ∧ w'.ownsRow w.heap.size 9 1 v (l.take 100).length (texts (l.take 100)) ∧ Below w.heap.size w w'

theorem one_new (w : World) (u : Value) (T : TypeId) : ∀ j x, [u][j]? = some x → (w.alloc (.cells #[u] T)).cell? ((⟨w.heap.size, 0, none⟩ : Addr).add j) = some x := by
  intro j x hj
  match j, hj with
  | 0, hj => simp at hj; subst hj; simp [Addr.add]

set_option maxRecDepth 100000 in
set_option maxHeartbeats 4000000 in
theorem trail_code (l : List Wrap) (c : Int) (v : Value) (w : World) (hg : Handle w) (hch : Chain w.heap.size w l (.iface 35 (.int .i64 c)) v) :
    Calls Tryd.prog 9 #[v] w (Trailed l w) := by
  obtain ⟨i0, hi, hz0, hz1, hz2⟩ := info_parts info9
  have HG := Lib.hid hg
  have HC := Lib.hid hch
  clear hg hch
  go_enter Tryd.func9, Tryd.ntmps9
  go_wp2
  go_loopg [0, 3] 100 (fun g s0 s3 wx => ∃ k : Nat, k + g = 100 ∧ k ≤ l.length ∧ Hid (Chain w.heap.size wx (l.drop k) (.iface 35 (.int .i64 c)) s0) ∧ wx.ownsRow w.heap.size 9 1 s3 k (texts (l.take k)) ∧ Below w.heap.size w wx)
  case atStart => exact ⟨0, rfl, Nat.zero_le _, HC, World.ownsRow_nil _ _ _ _, Below.refl _ _⟩
  case round =>
    obtain ⟨k, hk, hkl, hc, hown, hb⟩ := hrel
    obtain ⟨p, cap, rfl⟩ := own_shape hown
    have HO := Lib.hid hown
    clear hown HC
    cases gk with
    | zero =>
      obtain rfl : k = 100 := by omega
      go_wp2
      go_ret
      exact ⟨_, rfl, by rw [List.length_take, Nat.min_eq_left hkl]; exact HO.out, hb⟩
    | succ g =>
      by_cases hlast : k = l.length
      · -- all wraps are told
        have hs : u0 = .iface 35 (.int .i64 c) := by
          have := hc.out
          rw [hlast, List.drop_length] at this
          exact this
        subst hs
        have hlt : (k : Int) < 100 := by omega
        have HL := Lib.hid hlast
        clear hlast hc
        go_wp2_with (go_at_call 22; refine (first_bare c _ (HG.out.below hb HG.out.lt)).mono ?_; rintro e w2 ⟨rfl, hb2⟩)
        go_ret
        have e1 : l.take 100 = l := List.take_of_length_le (by have := HL.out; omega)
        have e2 : l.take k = l := List.take_of_length_le (by have := HL.out; omega)
        have ho := HO.out.kept (grown_of_below hb2) (own_any _)
        rw [e2] at ho
        exact ⟨_, rfl, by rw [e1, ← HL.out]; exact ho, hb.trans (hb2.mono hb.size)⟩
      · have hlt : k < l.length := by omega
        have hd : l.drop k = l[k] :: l.drop (k + 1) := List.drop_eq_getElem_cons hlt
        have ht := texts_succ l k hlt
        have hc1 := hc.out
        rw [hd] at hc1
        obtain ⟨b, u, rfl, hbl, c0, c1, c2, hcr⟩ := hc1
        obtain ⟨s, hs⟩ : ∃ s, s = l[k].1 := ⟨_, rfl⟩
        rw [← hs] at c0 ht
        have HT := Lib.hid ht
        have HU := Lib.hid hcr
        have C0 := Lib.hid c0
        have C2 := Lib.hid c2
        have hlt100 : (k : Int) < 100 := by omega
        have HK := Lib.hid hlt
        clear hc hd ht hs c0 c1 c2 hcr hlast hlt
        go_wp2_with (go_at_call 22; refine (first_place ⟨b, 0, none⟩ _ (HG.out.below hb HG.out.lt)).mono ?_; rintro e w2 ⟨rfl, hb2⟩)
        have hz := hb.size
        have g0 : w2.cell? ⟨b, 0, none⟩ = some (.string s) := (hb2.cell (p := ⟨b, 0, none⟩) (by show b < _; omega)).trans C0.out
        have HO2 := Lib.hid ((HO.out.kept (grown_of_below hb2) (own_any _)).alloc (.cells #[.string s] 9))
        have hz2' := hb2.size
        go_wp2_with (first | (go_at_call 23; refine (where_some b _ _ g0).mono ?_; rintro e w' ⟨rfl, rfl⟩) | (at_builtin; refine wpList_append_own _ rfl _ _ 28 rfl w.heap.size 9 i0 (.string ByteArray.empty) 1 16 Tryd.underlying28 hi hz0 hz1 hz2 rfl (by decide) _ _ _ rfl HO2.out ⟨_, 0, none⟩ 1 1 [.string s] rfl rfl (one_new _ _ _) (fun u hu => by simp at hu; subst hu; rfl) (by unfold maxLen; omega) (by omega) (by simp; omega) ?_; intro v' w3 hown' hgrow hnil; clear hnil))
        have hgr : (w'.alloc (.cells #[.string s] 9)).grownBy w3 (Value.slice p k cap).ownBlock := hgrow
        have hBr : Below w.heap.size wr w3 := ((hb2.mono hz).alloc (by omega) _).grown hgr (by simp; omega) (fun q hq => (HO2.out.lt q hq).1)
        have g2 : w3.cell? ⟨b, 2, none⟩ = some u := (hBr.cell (p := ⟨b, 2, none⟩) hbl).trans C2.out
        have HW := Lib.hid hown'
        have HCH := Lib.hid (HU.out.mono hBr (Nat.le_refl _))
        have HB3 := Lib.hid (hb.trans hBr)
        clear hgrow hgr hown' hBr
        go_wp2_with (go_at_call 18; refine (unwrap_some b u _ g2).mono ?_; rintro e w' ⟨rfl, rfl⟩)
        go_roundg g
        case measure => omega
        case rel => exact ⟨k + 1, by omega, HK.out, HCH, by rw [HT.out]; exact HW.out, HB3.out⟩
end Go.Proofs.YtmbjcgmcjackfaaDoor
