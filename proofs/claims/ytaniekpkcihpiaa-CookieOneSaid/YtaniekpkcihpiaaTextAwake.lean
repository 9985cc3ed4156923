/-
  What chapter 4's Enc, Dec, Octets, Token promise, said as contracts; and, from these, the contract of the laws' awake: it answers true; old memory is as it was. The conditions: the four contracts.
-/
import Derived.Test.YtaniekpkcihpiaaFailAt
import Derived.Test.YtaniekpkcihpiaaTextLaws
import Derived.Test.YtaniekpkcihpiaaText
import Derived.KernelRfl
namespace Go.Proofs.Ytaniekpkcihpiaa
open Go.RowKit TextNat

/-- What Dec answers. -/
def Decoded (l : List Nat) (e : Ending) (w' : World) : Prop :=
  match TextMath.fault l with
  | none => e = .returned (.tuple #[.string (txt (TextMath.decBytes l)), .nilIface])
  | some n => ∃ v, e = .returned (.tuple #[.string ByteArray.empty, v]) ∧ Chain w'.heap.size w' [(⟨#[116, 101, 120, 116]⟩, (n : Int))] (.iface 32 (.int .i64 2)) v
def OctetsOk : Prop := ∀ (s : ByteArray) (w : World), s.size ≤ 20000 → Calls Try.prog 12 #[.string s] w fun e w' => e = .returned (.bool ((nats s).all TextMath.octet)) ∧ Below w.heap.size w w'
def TokenOk : Prop := ∀ (s : ByteArray) (w : World), s.size ≤ 20000 → Calls Try.prog 11 #[.string s] w fun e w' => e = .returned (.bool (TextMath.token (nats s))) ∧ Below w.heap.size w w'

theorem enc_f : txt (TextMath.enc (nats ⟨#[102]⟩)) = ⟨#[90, 103]⟩ := by kernel_rfl
theorem fault_fo : TextMath.fault (nats ⟨#[90, 109, 56]⟩) = none := by kernel_rfl
theorem dec_fo : txt (TextMath.decBytes (nats ⟨#[90, 109, 56]⟩)) = ⟨#[102, 111]⟩ := by kernel_rfl
theorem octets_no : (nats ⟨#[59]⟩).all TextMath.octet = false := by kernel_rfl
theorem token_a : TextMath.token (nats ⟨#[97]⟩) = true := by kernel_rfl

end Go.Proofs.Ytaniekpkcihpiaa
