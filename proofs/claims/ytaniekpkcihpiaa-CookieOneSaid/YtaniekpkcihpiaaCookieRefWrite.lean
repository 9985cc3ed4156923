/-
  The document's Write of chapter 13. The conditions: the pairs lie where they are said to; each text has at most 20,000 bytes, all together at most 1,000,000.
-/
import Derived.Test.YtaniekpkcihpiaaCookieLaws
import Derived.Test.YtaniekpkcihpiaaRefOctets
import Derived.Deep.LoopGhost
namespace Go.Proofs.Ytaniekpkcihpiaa
open Go.RowKit TextNat CookieMath

theorem header_snoc : ∀ (l : List CookieMath.Pair) (p : CookieMath.Pair), header (l ++ [p]) = (if l = [] then [] else header l ++ [59, 32]) ++ one p
  | [], p => by simp [header]
  | [q], p => by
    show one q ++ 59 :: 32 :: one p = _
    rw [if_neg (by simp)]
    simp [header]
  | q :: r :: l, p => by
    have ih := header_snoc (r :: l) p
    rw [if_neg (by simp)] at ih
    rw [if_neg (by simp)]
    show one q ++ 59 :: 32 :: header ((r :: l) ++ [p]) = (one q ++ 59 :: 32 :: header (r :: l) ++ [59, 32]) ++ one p
    rw [ih]
    simp
/-- The header of the first i pairs. -/
def headTo (xs : List PairV) (i : Nat) : ByteArray := txt (header ((xs.take i).map PairV.n))
theorem headTo_zero (xs : List PairV) : headTo xs 0 = ⟨#[]⟩ := rfl
theorem headTo_one {xs : List PairV} {a : PairV} (h : xs[0]? = some a) : (⟨#[]⟩ : ByteArray) ++ a.1 ++ ⟨#[61]⟩ ++ a.2 = headTo xs 1 := by
  unfold headTo
  rw [List.take_add_one, h]
  show _ = txt (one a.n)
  unfold one PairV.n
  show _ = txt (nats a.1 ++ ([61] ++ nats a.2))
  rw [← txt_append, ← txt_append, txt_nats, txt_nats, ByteArray.append_assoc]
  show (⟨#[]⟩ : ByteArray) ++ a.1 ++ (⟨#[61]⟩ ++ a.2) = a.1 ++ (⟨#[61]⟩ ++ a.2)
  rw [show (⟨#[]⟩ : ByteArray) = ByteArray.empty from rfl, ByteArray.empty_append]
theorem headTo_step {xs : List PairV} {i : Nat} {a : PairV} (h0 : 0 < i) (h : xs[i]? = some a) : headTo xs i ++ ⟨#[59, 32]⟩ ++ a.1 ++ ⟨#[61]⟩ ++ a.2 = headTo xs (i + 1) := by
  have hi := (List.getElem?_eq_some_iff.1 h).1
  unfold headTo
  rw [List.take_add_one, h, List.map_append]
  show _ = txt (header ((xs.take i).map PairV.n ++ [a.n]))
  rw [header_snoc, if_neg (by
    intro he
    have := congrArg List.length he
    simp only [List.length_map, List.length_take, List.length_nil] at this
    omega)]
  unfold one PairV.n
  show _ = txt ((header ((xs.take i).map PairV.n) ++ [59, 32]) ++ (nats a.1 ++ ([61] ++ nats a.2)))
  rw [← txt_append, ← txt_append, ← txt_append, ← txt_append, txt_nats, txt_nats]
  simp only [ByteArray.append_assoc]
  rfl
theorem headTo_size (xs : List PairV) (i : Nat) : (headTo xs i).size ≤ total (xs.map PairV.n) := by
  unfold headTo
  rw [txt_len]
  refine Nat.le_trans (header_le _) ?_
  have := total_append ((xs.take i).map PairV.n) ((xs.drop i).map PairV.n)
  rw [← List.map_append, List.take_append_drop] at this
  omega
theorem headTo_all {xs : List PairV} {i : Nat} (h : xs.length ≤ i) : headTo xs i = txt (header (xs.map PairV.n)) := by
  unfold headTo
  rw [List.take_of_length_le h]
/-- What the document's Write answers. -/
def RefWriteIs (xs : List PairV) (e : Ending) : Prop :=
  match badV xs with
  | none => e = .returned (.tuple #[.string (txt (header (xs.map PairV.n))), .int .i64 (-1)])
  | some i => e = .returned (.tuple #[.string ⟨#[]⟩, .int .i64 (i : Int)])
theorem bad_at {xs : List PairV} {i : Nat} {a : PairV} (h : ∀ j b, j < i → xs[j]? = some b → rightV b = true) (hi : xs[i]? = some a) (ha : rightV a = false) : badV xs = some i := by
  unfold badV
  rw [List.findIdx?_eq_some_iff_getElem]
  obtain ⟨h1, h2⟩ := List.getElem?_eq_some_iff.1 hi
  refine ⟨h1, by rw [h2, ha]; rfl, fun j hj he => ?_⟩
  have := h j _ hj (List.getElem?_eq_getElem (Nat.lt_trans hj h1))
  rw [this] at he
  cases he
theorem bad_no {xs : List PairV} {i : Nat} (h : ∀ j b, j < i → xs[j]? = some b → rightV b = true) (hi : xs.length ≤ i) : badV xs = none := by
  unfold badV
  rw [List.findIdx?_eq_none_iff]
  intro x hx
  obtain ⟨j, hj⟩ := List.getElem?_of_mem hx
  have := h j x (by have := (List.getElem?_eq_some_iff.1 hj).1; omega) hj
  rw [this]
  rfl
theorem below_drewN13 {B : Nat} {a w : World} (n : Nat) (h : Below B a w) : Below B a (w.drewN n) := ⟨h.os, h.tape, h.output, h.size, h.block⟩
end Go.Proofs.Ytaniekpkcihpiaa
