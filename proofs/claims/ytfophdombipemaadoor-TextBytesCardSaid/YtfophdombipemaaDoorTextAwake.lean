/-
  What chapter 4's Enc, Dec, Octets, Token promise, said as contracts; and, from these, the contract of the laws' awake: it answers true; old memory is as it was. The conditions: the four contracts.
-/
import Derived.Test.YtfophdombipemaaDoorFailAt
import Derived.Test.YtfophdombipemaaDoorTextLaws
import Derived.Test.YtfophdombipemaaDoorText
import Derived.KernelRfl
namespace Go.Proofs.YtfophdombipemaaDoor
open Go.RowKit TextNat

def EncOk : Prop := ∀ (s : ByteArray) (w : World), s.size ≤ 20000 → Calls Tryd.prog 8 #[.string s] w fun e w' => e = .returned (.string (txt (TextMath.enc (nats s)))) ∧ Below w.heap.size w w'
/-- What Dec answers. -/
def Decoded (l : List Nat) (e : Ending) (w' : World) : Prop :=
  match TextMath.fault l with
  | none => e = .returned (.tuple #[.string (txt (TextMath.decBytes l)), .nilIface])
  | some n => ∃ v, e = .returned (.tuple #[.string ByteArray.empty, v]) ∧ Chain w'.heap.size w' [(⟨#[116, 101, 120, 116]⟩, (n : Int))] (.iface 33 (.int .i64 2)) v
def DecOk : Prop := ∀ (s : ByteArray) (w : World), s.size ≤ 20000 → Calls Tryd.prog 6 #[.string s] w fun e w' => Decoded (nats s) e w' ∧ Below w.heap.size w w'
def OctetsOk : Prop := ∀ (s : ByteArray) (w : World), s.size ≤ 20000 → Calls Tryd.prog 12 #[.string s] w fun e w' => e = .returned (.bool ((nats s).all TextMath.octet)) ∧ Below w.heap.size w w'
def TokenOk : Prop := ∀ (s : ByteArray) (w : World), s.size ≤ 20000 → Calls Tryd.prog 14 #[.string s] w fun e w' => e = .returned (.bool (TextMath.token (nats s))) ∧ Below w.heap.size w w'

theorem enc_f : txt (TextMath.enc (nats ⟨#[102]⟩)) = ⟨#[90, 103]⟩ := by kernel_rfl
theorem fault_fo : TextMath.fault (nats ⟨#[90, 109, 56]⟩) = none := by kernel_rfl
theorem dec_fo : txt (TextMath.decBytes (nats ⟨#[90, 109, 56]⟩)) = ⟨#[102, 111]⟩ := by kernel_rfl
theorem octets_no : (nats ⟨#[59]⟩).all TextMath.octet = false := by kernel_rfl
theorem token_a : TextMath.token (nats ⟨#[97]⟩) = true := by kernel_rfl

theorem dec_none {s : ByteArray} (hD : DecOk) (hs : s.size ≤ 20000) (hf : TextMath.fault (nats s) = none) (w : World) :
    Calls Tryd.prog 6 #[.string s] w fun e w' => e = .returned (.tuple #[.string (txt (TextMath.decBytes (nats s))), .nilIface]) ∧ Below w.heap.size w w' := by
  refine (hD s w hs).mono ?_
  rintro e w' ⟨h, hb⟩
  unfold Decoded at h
  rw [hf] at h
  exact ⟨h, hb⟩

theorem awake_true (w : World) (hE : EncOk) (hD : DecOk) (hO : OctetsOk) (hT : TokenOk) : Calls Tryd.prog 5 #[] w fun e w' => e = .returned (.bool true) ∧ Below w.heap.size w w' := by
  have HE := Lib.hid (fun w => hE ⟨#[102]⟩ w (by decide))
  have HD := Lib.hid (fun w => dec_none (s := ⟨#[90, 109, 56]⟩) hD (by decide) fault_fo w)
  have HO := Lib.hid (fun w => hO ⟨#[59]⟩ w (by decide))
  have HT := Lib.hid (fun w => hT ⟨#[97]⟩ w (by decide))
  rw [enc_f] at HE
  rw [dec_fo] at HD
  rw [octets_no] at HO
  rw [token_a] at HT
  clear hE hD hO hT
  go_enter Tryd.func5, Tryd.ntmps5
  go_wp2_with (first
    | (go_at_call 6; refine (HD.out _).mono ?_; rintro e w2 ⟨rfl, hb2⟩)
    | (go_at_call 8; refine (HE.out _).mono ?_; rintro e w3 ⟨rfl, hb3⟩)
    | (go_at_call 14; refine (HT.out _).mono ?_; rintro e w4 ⟨rfl, hb4⟩)
    | (go_at_call 12; refine (HO.out _).mono ?_; rintro e w5 ⟨rfl, hb5⟩))
  go_ret
  exact ⟨rfl, hb2.trans ((hb3.mono hb2.size).trans ((hb4.mono (Nat.le_trans hb2.size hb3.size)).trans (hb5.mono (Nat.le_trans hb2.size (Nat.le_trans hb3.size hb4.size)))))⟩
end Go.Proofs.YtfophdombipemaaDoor
