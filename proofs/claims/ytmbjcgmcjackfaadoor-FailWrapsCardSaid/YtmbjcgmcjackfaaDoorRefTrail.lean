/-
  The contract of the document's own Trail: the texts of the wraps that a slice holds, a hundred at most, in new memory. The condition: the slice's cells are told.
-/
import Derived.Test.YtmbjcgmcjackfaaDoorTrail
namespace Go.Proofs.YtmbjcgmcjackfaaDoor
open Go.RowKit Go.Extern.Stop Go.Stop Go.Extern

set_option maxRecDepth 100000 in
set_option maxHeartbeats 4000000 in
theorem refTrail_some (l : List Wrap) (b off cap : Nat) (w : World) (hm : l.length ≤ 200)
    (hl : ∀ (k : Nat) (x : Wrap), l[k]? = some x → w.cell? ⟨b, off + k * 2, none⟩ = some (.string x.1) ∧ w.cell? ⟨b, off + k * 2 + 1, none⟩ = some (.int .i64 x.2)) :
    Calls Tryd.prog 14 #[.slice (some ⟨b, off, none⟩) l.length cap] w (Trailed l w) := by
  obtain ⟨i0, hi, hz0, hz1, hz2⟩ := info_parts info9
  have HL := Lib.hid hl
  clear hl
  have H0 := Lib.hid (World.ownsRow_made (base := w.heap.size) (e := 9) (size := 1) w #[] 0 (Nat.le_refl _) (by simp) (by simp))
  have HB := Lib.hid ((Below.refl w.heap.size w).alloc (Nat.le_refl _) (.cells #[] 9))
  go_enter Tryd.func14, Tryd.ntmps14
  go_wp2
  go_loopg [3, 4] 200 (fun g s3 s4 wx => ∃ k : Nat, k + g = 200 ∧ k ≤ l.length ∧ k ≤ 100 ∧ s4 = .int .i64 k ∧ wx.ownsRow w.heap.size 9 1 s3 k (texts (l.take k)) ∧ Below w.heap.size w wx)
  case atStart => exact ⟨0, rfl, Nat.zero_le _, Nat.zero_le _, by go_num, H0.out, HB.out⟩
  case round =>
    obtain ⟨k, hk, hkl, hkh, rfl, hown, hb⟩ := hrel
    clear H0 HB
    obtain ⟨p, c, rfl⟩ := own_shape hown
    have HO := Lib.hid hown
    clear hown
    by_cases hend : k < l.length ∧ k < 100
    · obtain ⟨h1, h2⟩ := hend
      obtain ⟨c0, _⟩ := HL.out k _ (List.getElem?_eq_getElem h1)
      have hbl := cell_lt c0
      have g0 : wr.cell? ⟨b, off + k * 2, none⟩ = some (.string l[k].1) := (hb.cell (p := ⟨b, off + k * 2, none⟩) hbl).trans c0
      have ht := texts_succ l k h1
      obtain ⟨s, hs⟩ : ∃ s, s = l[k].1 := ⟨_, rfl⟩
      rw [← hs] at g0 ht
      have HT := Lib.hid ht
      have HO2 := Lib.hid (HO.out.alloc (.cells #[.string s] 9))
      have hz := hb.size
      clear ht hs c0
      have b1 : (k : Int) < (l.length : Int) := by omega
      have b2 : (k : Int) < 100 := by omega
      go_wp2_with ((at_builtin; refine wpList_append_own _ rfl _ _ 28 rfl w.heap.size 9 i0 (.string ByteArray.empty) 1 16 Tryd.underlying28 hi hz0 hz1 hz2 rfl (by decide) _ _ _ rfl HO2.out ⟨_, 0, none⟩ 1 1 [.string s] rfl rfl (one_new _ _ _) (fun u hu => by simp at hu; subst hu; rfl) (by unfold maxLen; omega) (by omega) (by simp; omega) ?_; intro v' w3 hown' hgrow hnil; clear hnil))
      have hgr : (wr.alloc (.cells #[.string s] 9)).grownBy w3 (Value.slice p k c).ownBlock := hgrow
      have hBr : Below w.heap.size wr w3 := ((Below.refl _ wr).alloc hz _).grown hgr (by simp; omega) (fun q hq => (HO2.out.lt q hq).1)
      go_roundg (200 - (k + 1))
      case measure => omega
      case rel => exact ⟨k + 1, by omega, by omega, by omega, by go_num, by rw [HT.out]; exact hown', hb.trans hBr⟩
    · by_cases h1 : k < l.length
      · have b1 : (k : Int) < (l.length : Int) := by omega
        have d2 : decide ((k : Int) < 100) = false := by simp; omega
        have HE := Lib.hid (show k = 100 by omega)
        clear hend
        go_wp2
        go_ret
        have ho : ∀ n, k = n → wr.ownsRow w.heap.size 9 1 (.slice p k c) n (texts (l.take n)) := fun n h => by subst h; exact HO.out
        exact ⟨_, rfl, by rw [List.length_take, Nat.min_eq_left (by have := HE.out; omega)]; exact ho 100 HE.out, hb⟩
      · have d1 : decide (k < l.length) = false := by simp; omega
        have HE := Lib.hid (show k = l.length by omega)
        clear hend h1
        go_wp2
        go_ret
        have e1 : l.take 100 = l := List.take_of_length_le (by have := HE.out; omega)
        have e2 : l.take k = l := List.take_of_length_le (by have := HE.out; omega)
        have ho := HO.out
        rw [e2] at ho
        exact ⟨_, rfl, by rw [e1, ← HE.out]; exact ho, hb⟩

theorem refTrail_none (p : Option Addr) (cap : Nat) (w : World) :
    Calls Tryd.prog 14 #[.slice p 0 cap] w (Trailed [] w) := by
  have H0 := Lib.hid (World.ownsRow_made (base := w.heap.size) (e := 9) (size := 1) w #[] 0 (Nat.le_refl _) (by simp) (by simp))
  have HB := Lib.hid ((Below.refl w.heap.size w).alloc (Nat.le_refl _) (.cells #[] 9))
  go_enter Tryd.func14, Tryd.ntmps14
  go_wp2
  go_rounds 1
  go_ret
  exact ⟨_, rfl, H0.out, HB.out⟩
end Go.Proofs.YtmbjcgmcjackfaaDoor
