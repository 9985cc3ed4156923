/-
  The contract of the program's Trim of chapter 4. The conditions: a text of at most 20,000 bytes; unicode/utf8's two tables as Go's text lays them.
-/
import Derived.Test.YtfophdombipemaaDoorTextOctets
import Derived.Test.YtfophdombipemaaDoorTrimMath
import Derived.Test.YtfophdombipemaaDoorClone
import Derived.WalkKit
namespace Go.Proofs.YtfophdombipemaaDoor
open Go.RowKit TextNat

theorem blank_walk (x : Nat) (W : World) : FnGives Tryd.prog 31 #[] #[encR x] (.bool (TextMath.blank x)) W := by
  unfold FnGives
  have e1 : ((x : Int) == 32) = (x == 32) := by rw [Bool.eq_iff_iff]; simp; omega
  have e2 : ((x : Int) == 9) = (x == 9) := by rw [Bool.eq_iff_iff]; simp; omega
  unfold TextMath.blank
  cases h1 : x == 32 <;> cases h2 : x == 9
  all_goals
    rw [h1] at e1
    rw [h2] at e2
    clear h1 h2
    go_enter Tryd.func31, Tryd.ntmps31
    go_wp2
    go_ret
    exact ⟨rfl, 0, rfl⟩
theorem trim_func (s : ByteArray) (w : World) (hs : s.size ≤ 20000) (ht : Tabs w) :
    Calls Tryd.prog 30 #[.string s, .func (.func 31) #[] #[]] w fun e w' => e = .returned (.string (txt (TextMath.trim (nats s)))) ∧ Below w.heap.size w w' := by
  rw [← trim_txt]
  exact Tryd.strings_TrimFunc _ _ (enters_of Tryd.func31 (by kernel_rfl) rfl) TextMath.blank s w (by omega) ht (fun W x _ => blank_walk x W)
theorem clone_text (s : ByteArray) (w : World) (hs : s.size ≤ 20000) :
    Calls Tryd.prog 29 #[.string s] w fun e w' => e = .returned (.string s) ∧ Below w.heap.size w w' := by
  have HC := Lib.hid (fun w => Tryd.stringslite_Clone s w (by omega))
  go_enter Tryd.func29, Tryd.ntmps29
  go_wp2_with (go_at_call 42; refine (HC.out _).mono ?_; rintro e w2 ⟨rfl, hb⟩)
  go_ret
  exact ⟨rfl, hb⟩
theorem trimOk : TrimOk := by
  intro s w hs ht
  obtain ⟨L, hL⟩ : ∃ L, L = txt (TextMath.trim (nats s)) := ⟨_, rfl⟩
  have hls : L.size ≤ 20000 := by
    have := trim_len (nats s)
    rw [nats_len] at this
    rw [hL, txt_len]
    omega
  have HT := Lib.hid (trim_func s w hs ht)
  have HC := Lib.hid (fun w => clone_text L w hls)
  rw [← hL] at HT ⊢
  clear hL hls ht
  go_enter Tryd.func11, Tryd.ntmps11
  go_wp2_with (first
    | (go_at_call 30; refine HT.out.mono ?_; rintro e w2 ⟨rfl, hb2⟩)
    | (go_at_call 29; refine (HC.out _).mono ?_; rintro e w3 ⟨rfl, hb3⟩))
  go_ret
  exact ⟨rfl, hb2.trans (hb3.mono hb2.size)⟩
end Go.Proofs.YtfophdombipemaaDoor
