/-
  The example of chapter 13, as its laws ask it. The conditions: the program's contracts.
-/
import Derived.Test.YtaniekpkcihpiaaCookieLaws
namespace Go.Proofs.Ytaniekpkcihpiaa
open Go.RowKit TextNat CookieMath

theorem parse_example : parse (nats ⟨#[97, 61, 49, 59, 32, 98, 61]⟩) = .inl [([97], [49]), ([98], [])] := by decide
set_option maxRecDepth 100000 in
set_option maxHeartbeats 4000000 in
theorem awake_true (hP : ParseOk) (w : World) : Calls Try.prog 5 #[] w fun e w' => e = .returned (.bool true) ∧ Below w.heap.size w w' := by
  have HP := Lib.hid (hP ⟨#[97, 61, 49, 59, 32, 98, 61]⟩ w (by decide))
  clear hP
  go_enter Try.func5, Try.ntmps5
  go_wp2_with fail
  refine HP.out.mono ?_
  rintro e w1 ⟨h1, hb⟩
  unfold ParseIs at h1
  rw [parse_example] at h1
  obtain ⟨pp, cap, rfl, _, _, h2⟩ := h1
  obtain ⟨b, off, rfl⟩ := h2.addr (by decide)
  obtain ⟨c0, c1⟩ := h2.look (i := 0) (x := (⟨#[97]⟩, ⟨#[49]⟩)) (by decide)
  obtain ⟨c2, c3⟩ := h2.look (i := 1) (x := (⟨#[98]⟩, ⟨#[]⟩)) (by decide)
  have HB := Lib.hid hb
  simp only [Nat.zero_mul, Nat.one_mul, Nat.add_zero] at c0 c1 c2 c3
  clear h2 hb HP
  go_wp2
  go_ret
  exact ⟨rfl, HB.out⟩
end Go.Proofs.Ytaniekpkcihpiaa
