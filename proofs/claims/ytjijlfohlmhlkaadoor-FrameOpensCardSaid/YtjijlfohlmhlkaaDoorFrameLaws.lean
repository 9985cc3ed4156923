/-
  The contracts of the program's functions of chapter 9, as sentences that its laws start from. No conditions but those typed.
-/
import Derived.Test.YtjijlfohlmhlkaaDoorFrameMath2
import Derived.Test.YtjijlfohlmhlkaaDoorCrcStep
import Derived.Test.YtjijlfohlmhlkaaDoorErrIs
import Derived.Test.YtjijlfohlmhlkaaDoorText
import Derived.Test.YtjijlfohlmhlkaaDoorTextEq
namespace Go.Proofs.YtjijlfohlmhlkaaDoor
open Go.RowKit FrameMath TextNat

abbrev fname : ByteArray := ⟨#[102, 114, 97, 109, 101]⟩
abbrev I64 (n : Int) : Prop := -9223372036854775808 ≤ n ∧ n ≤ 9223372036854775807
def SealOk : Prop := ∀ (s : ByteArray) (w : World), Tables w → s.size ≤ 9223372036854775807 → Calls Tryd.prog 10 #[.string s] w fun e w' =>
  (if s.size ≤ 8192 then e = .returned (.tuple #[.string (txt (framed (nats s))), .nilIface]) else ∃ x, e = .returned (.tuple #[.string ⟨#[]⟩, x]) ∧ ErrAt w' fname (s.size : Int) 3 x) ∧ Below w.heap.size w w'
/-- What stands at a place of a text. -/
def openF (l : List Nat) (k : Int) : Option (List Nat) := if 0 ≤ k ∧ k < (l.length : Int) then stands (l.drop k.toNat) else none
def OpenIs (w' : World) (s : ByteArray) (k : Int) (e : Ending) : Prop :=
  match openF (nats s) k with
  | some p => e = .returned (.tuple #[.string (txt p), .int .i64 (k + ((framed p).length : Int)), .nilIface])
  | none => ∃ x, e = .returned (.tuple #[.string ⟨#[]⟩, .int .i64 k, x]) ∧ ErrAt w' fname k (if k = (s.size : Int) then 7 else 2) x
def OpenOk : Prop := ∀ (s : ByteArray) (k : Int) (w : World), Tables w → s.size ≤ 100000 → I64 k → Calls Tryd.prog 12 #[.string s, .int .i64 k] w fun e w' => OpenIs w' s k e ∧ Below w.heap.size w w'
/-- The first beginning from a place on. -/
def findF (l : List Nat) (k : Int) : Int := match (List.range l.length).find? (fun j : Nat => decide (k ≤ (j : Int)) && l[j]? == some 1) with
  | some j => (j : Int)
  | none => -1
theorem find_at {l : List Nat} {k : Int} {i : Nat} (hk : k ≤ (i : Int)) (hi : l[i]? = some 1) (hno : ∀ j : Nat, j < i → k ≤ (j : Int) → l[j]? ≠ some 1) : findF l k = (i : Int) := by
  have hil : i < l.length := (List.getElem?_eq_some_iff.1 hi).1
  unfold findF
  have : (List.range l.length).find? (fun j : Nat => decide (k ≤ (j : Int)) && l[j]? == some 1) = some i := by
    rw [List.find?_range_eq_some]
    refine ⟨by rw [decide_eq_true hk, hi]; rfl, List.mem_range.2 hil, fun j hj => ?_⟩
    by_cases h : k ≤ (j : Int)
    · have := hno j hj h
      rw [decide_eq_true h, Bool.true_and]
      simpa using this
    · rw [decide_eq_false h]
      rfl
  rw [this]
theorem find_none {l : List Nat} {k : Int} (hno : ∀ j : Nat, k ≤ (j : Int) → l[j]? ≠ some 1) : findF l k = -1 := by
  unfold findF
  have : (List.range l.length).find? (fun j : Nat => decide (k ≤ (j : Int)) && l[j]? == some 1) = none := by
    rw [List.find?_eq_none]
    intro j _
    by_cases h : k ≤ (j : Int)
    · have := hno j h
      simpa [h] using this
    · simp [h]
  rw [this]
theorem find_first (p : List Nat) : findF (framed p) 0 = 0 := find_at (i := 0) (Int.le_refl _) rfl fun j hj => by omega
theorem find_behind {p : List Nat} (hp : p.length ≤ 8192) (bp : Oct p) : findF (framed p) 1 = -1 := find_none fun j hj h => by
  obtain ⟨m, rfl⟩ : ∃ m, j = m + 1 := ⟨j - 1, by omega⟩
  have : (nibs (rawF p))[m]? = some 1 := h
  have := nibs_mem (rawF_bytes (by omega) bp) 1 (List.mem_of_getElem? this)
  omega
def FindOk : Prop := ∀ (s : ByteArray) (k : Int) (w : World), s.size ≤ 100000 → I64 k → Calls Tryd.prog 15 #[.string s, .int .i64 k] w fun e w' => e = .returned (.int .i64 (findF (nats s) k)) ∧ Below w.heap.size w w'
theorem OpenIs.some {w' : World} {s : ByteArray} {k : Int} {e : Ending} {p : List Nat} (h : OpenIs w' s k e) (hp : openF (nats s) k = Option.some p) : e = .returned (.tuple #[.string (txt p), .int .i64 (k + ((framed p).length : Int)), .nilIface]) := by
  unfold OpenIs at h
  rwa [hp] at h
theorem OpenIs.none {w' : World} {s : ByteArray} {k : Int} {e : Ending} (h : OpenIs w' s k e) (hp : openF (nats s) k = Option.none) : ∃ x, e = .returned (.tuple #[.string ⟨#[]⟩, .int .i64 k, x]) ∧ ErrAt w' fname k (if k = (s.size : Int) then 7 else 2) x := by
  unfold OpenIs at h
  rwa [hp] at h
theorem framed_bytes {p : List Nat} (h : p.length ≤ 8192) (hp : Oct p) : ∀ b ∈ framed p, b < 256 := by
  intro b hb
  rcases framed_mem (by omega) hp b hb with h | h <;> omega
theorem nats_framed {p : List Nat} (h : p.length ≤ 8192) (hp : Oct p) : nats (txt (framed p)) = framed p := nats_txt _ (framed_bytes h hp)
theorem nats_ok (s : ByteArray) : Oct (nats s) := nats_lt s
theorem txt_framed_size (p : List Nat) : (txt (framed p)).size = 21 + 2 * p.length := by rw [txt_len, framed_len]
set_option maxRecDepth 100000 in
set_option maxHeartbeats 4000000 in
/-- The document's example. -/
theorem awake_true (hS : SealOk) (hO : OpenOk) (w : World) (hT : Tables w) : Calls Tryd.prog 9 #[] w fun e w' => e = .returned (.bool true) ∧ Below w.heap.size w w' := by
  have HS := Lib.hid (hS ⟨#[]⟩ w hT (by decide))
  have HT := Lib.hid hT
  replace hO := Lib.hid hO
  clear hS hT
  go_enter Tryd.func9, Tryd.ntmps9
  go_wp2_with fail
  refine HS.out.mono ?_
  rintro e w1 ⟨h1, hb⟩
  rw [if_pos (by decide)] at h1
  subst h1
  have HB := Lib.hid hb
  have HT1 := Lib.hid (HT.out.grown hb)
  have hz : (txt (framed (nats ⟨#[]⟩))).size = 21 := txt_framed_size _
  have hp5 : (txt (framed (nats ⟨#[]⟩))).extract 0 5 = ⟨#[1, 64, 64, 64, 64]⟩ := by decide
  have ho : openF (nats (txt (framed (nats ⟨#[]⟩)))) 0 = some [] := by
    rw [nats_framed (by decide) (nats_ok _)]
    unfold openF
    rw [if_pos (by rw [framed_len]; decide)]
    exact stands_framed (p := []) (by decide) (fun b hb => by cases hb) []
  generalize txt (framed (nats ⟨#[]⟩)) = S at hz hp5 ho ⊢
  clear HS HT hb
  go_wp2_with fail
  refine (hO.out S 0 w1 HT1.out (by omega) (by decide)).mono ?_
  rintro e w2 ⟨h2, hb⟩
  have h3 := h2.some ho
  subst h3
  replace HB := Lib.hid (HB.out.trans (hb.mono HB.out.size))
  clear hb h2
  rw [show (0 : Int) + ((framed []).length : Int) = 21 by rw [framed_len]; rfl, show txt [] = ⟨#[]⟩ from rfl]
  go_wp2
  go_ret
  exact ⟨rfl, HB.out⟩
end Go.Proofs.YtjijlfohlmhlkaaDoor
