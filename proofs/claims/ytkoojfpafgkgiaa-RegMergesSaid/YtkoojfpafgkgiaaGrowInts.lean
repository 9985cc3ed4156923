/-
  For rows of ints that the call itself makes, over this program: what 'append' asks of the element's type, one new cell. No conditions but those typed.
-/
import Derived.Test.YtkoojfpafgkgiaaProg
import Derived.Test.YtkoojfpafgkgiaaArr
import Derived.Test.YtkoojfpafgkgiaaOwnBytes
import Derived.Test.YtkoojfpafgkgiaaMark
import Derived.Test.YtkoojfpafgkgiaaText
import Derived.WalkKit
import Derived.Handy
import Derived.Outline
import Derived.Lib.Hide
import Derived.Deep.LoopGhost
import Derived.Deep.RegionWith
import Derived.Deep.RegionLaw
import Derived.StillTailTactics
import Derived.BigQuiet
import Derived.Laws.IdiomStrings
import Derived.Test.YtkoojfpafgkgiaaBut
namespace Go.Proofs.Ytkoojfpafgkgiaa
open Go.RowKit TextNat

theorem info_int : (Try.prog.info? 3).map (fun i => (i.zero, i.size, i.bytes)) = some (some (.int .i64 0), 1, 8) := by kernel_rfl

/-- The cell that a row of one value is made with. -/
theorem one_put (w : World) (u : Value) (T : TypeId) (B : Nat) (hB : B = w.heap.size) : ∀ j x, [u][j]? = some x → (w.alloc (.cells #[u] T)).cell? ((⟨B, 0, none⟩ : Addr).add j) = some x := by
  subst hB
  intro j x hj
  match j, hj with
  | 0, hj => simp at hj; subst hj; simp [Addr.add]

/-- A row of one's own, where another block alone is written. -/
theorem OwnsM.but {w w' : World} {pb base : Nat} {e : TypeId} {v : Value} {n : Nat} {xs : List Value} (h : OwnsM w base e v n xs) (hb : But pb w w') (hp : pb < base) : OwnsM w' base e v n xs := by
  refine ⟨h.1, ?_⟩
  rcases h.2 with hn | ⟨g, cap, cur, lo, hi, rfl, hb2, hgg, rest⟩
  · exact .inl hn
  · exact .inr ⟨g, cap, cur, lo, hi, rfl, hb2, (hb.block g (Array.getElem?_eq_some_iff.1 hgg).1 (by omega)).trans hgg, rest⟩
theorem But.of_grown {pb : Nat} {w wa w2 : World} {row : Option Nat} (h : But pb w wa) (hg : wa.grownBy w2 row) (hr : ∀ q, row = some q → w.heap.size ≤ q) : But pb w w2 :=
  ⟨hg.os.trans h.os, hg.tape.trans h.tape, hg.output.trans h.output, Nat.le_trans h.size hg.size, fun k hk hn => (hg.block k (Nat.lt_of_lt_of_le hk h.size) (fun e => by have := hr k e.symm; omega)).trans (h.block k hk hn)⟩
end Go.Proofs.Ytkoojfpafgkgiaa
