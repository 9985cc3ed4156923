/-
  The kinds of bytes that the program's Parse of chapter 13 asks for, and strings.Clone. The conditions: those typed.
-/
import Derived.Test.YtaniekpkcihpiaaCookieP2
import Derived.Test.YtaniekpkcihpiaaTextTests
import Derived.Test.YtaniekpkcihpiaaClone
namespace Go.Proofs.Ytaniekpkcihpiaa
open Go.RowKit TextNat CookieMath

theorem ck_clone : CkClone := by
  intro s w hs
  have HC := Lib.hid (fun w => Try.stringslite_Clone s w hs)
  clear hs
  go_enter Try.func27, Try.ntmps27
  go_wp2_with (go_at_call 30; refine (HC.out _).mono ?_; rintro e w2 ⟨rfl, hb⟩)
  go_ret
  exact ⟨rfl, hb⟩
theorem one_token (s : ByteArray) : OneByte s 11 TextMath.tokenOctet := fun q z w hz => by
  refine (token_same _ w (by rw [one_size s hz]; decide)).mono ?_
  rintro e w' ⟨rfl, hw⟩
  refine ⟨?_, hw⟩
  rw [one_extract s hz]
  unfold TextMath.token
  simp
theorem one_octets (s : ByteArray) : OneByte s 12 TextMath.octet := fun q z w hz => by
  refine (octets_same _ w (by rw [one_size s hz]; decide)).mono ?_
  rintro e w' ⟨rfl, hw⟩
  refine ⟨?_, hw⟩
  rw [one_extract s hz]
  simp
end Go.Proofs.Ytaniekpkcihpiaa
