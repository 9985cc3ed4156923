/-
  BakeLast's contract. The conditions: the program's contracts.
-/
import Derived.Test.YtlgofepmdjlpgaaDoorPart18
import Derived.Test.YtlgofepmdjlpgaaDoorPart11
import Derived.Test.YtlgofepmdjlpgaaDoorResults
namespace Go.Proofs.YtlgofepmdjlpgaaDoor
open Go.RowKit TextNat BakeMath

theorem dec_small {k : Nat} (h : k < 10) : dec k = [48 + k] := by
  show decF 20 k = _
  rw [decF, if_pos h]
theorem dec_step {k : Nat} (h : ¬ k < 10) (hk : k ≤ 1099511627776) : dec k = dec (k / 10) ++ [48 + k % 10] := by
  show decF 20 k = decF 20 (k / 10) ++ _
  rw [decF, if_neg h, dec_same 13 19 (k / 10) (by omega) (by decide), dec_same 13 20 (k / 10) (by omega) (by decide)]
/-- What the program answers, once more: a cookie and whether there is one. -/
theorem parse_val {w : World} {s : ByteArray} {e : Ending} (h : ParseIs w s e) : ∃ (x : CookieV) (y : Value), e = .returned (.tuple #[x.val, y]) ∧ ((parseF (nats s) = none ∧ ∃ T u, y = .iface T u) ∨ ∃ c, parseF (nats s) = some c ∧ x = CookieV.of c ∧ y = .nilIface) := by
  unfold ParseIs at h
  cases hp : parseF (nats s) with
  | none =>
    rw [hp] at h
    obtain ⟨r, rfl, hx⟩ := h
    obtain ⟨T, u, rfl⟩ := hx.iface
    exact ⟨_, _, rfl, .inl ⟨rfl, T, u, rfl⟩⟩
  | some c =>
    rw [hp] at h
    exact ⟨_, _, h, .inr ⟨c, rfl, rfl, rfl⟩⟩
theorem below_set8 {B g : Nat} {a w : World} (h : Below B a w) (hg : B ≤ g) (j : Nat) (v : Value) : Below B a (w.setCell ⟨g, j, none⟩ v) :=
  ⟨h.os, h.tape, h.output, by have := h.size; simpa [World.setCell] using this, fun k hk => (Below.heap_setCell _ _ _ _ (by show k ≠ g; omega)).trans (h.block k hk)⟩
theorem last_txt (s : ByteArray) (n : Nat) (D : ByteArray) (hD : nats D = dec n) : nats (s ++ ⟨#[59, 88, 45, 79, 116, 104, 101, 114, 61, 49, 59, 32, 109, 97, 120, 45, 97, 103, 101, 32, 61, 32]⟩ ++ D ++ ⟨#[32]⟩) = nats s ++ lastOf n := by
  rw [nats_append, nats_append, nats_append, hD]
  unfold lastOf
  simp only [List.append_assoc]
  rfl
end Go.Proofs.YtlgofepmdjlpgaaDoor
