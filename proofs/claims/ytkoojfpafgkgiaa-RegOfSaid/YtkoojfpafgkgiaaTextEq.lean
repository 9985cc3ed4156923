/-
  '==' and '!=' of two texts. No conditions.
-/
import Derived.Test.YtkoojfpafgkgiaaText
import Derived.Test.YtkoojfpafgkgiaaProg
import Derived.WalkKit
import Derived.Handy
import Derived.Outline
namespace Go.Proofs.Ytkoojfpafgkgiaa
open Go.RowKit

theorem text_list {a b : ByteArray} (h : ¬ a = b) : ¬ a.toList = b.toList := fun k => h (by
  rw [ByteArray.toList_eq, ByteArray.toList_eq] at k
  cases a; cases b; simpa using k)
theorem none_list {a : ByteArray} (h : a = ⟨#[]⟩) : a.toList.isEmpty = true := by
  subst h
  rw [ByteArray.toList_eq]
  rfl
theorem some_list {a : ByteArray} (h : ¬ a = ⟨#[]⟩) : a.toList.isEmpty = false := by
  rw [ByteArray.toList_eq]
  cases e : a.data.toList.isEmpty with
  | false => rfl
  | true =>
    exfalso
    apply h
    cases a
    simpa using e
theorem add_text (a b : ByteArray) (h : a.size + b.size ≤ 9223372036854775807) (w : World) : (binOp .add 9 (.string a) (.string b)).run Try.prog w = .ok (.string (a ++ b)) w := by
  go_simp
theorem eql_text (a b : ByteArray) (w : World) : (binOp .eql 9 (.string a) (.string b)).run Try.prog w = .ok (.bool (decide (a = b))) w := by
  by_cases h : a = b
  · subst h
    go_simp
  · have k := text_list h
    go_simp
    all_goals simp_all
theorem neq_text (a b : ByteArray) (w : World) : (binOp .neq 9 (.string a) (.string b)).run Try.prog w = .ok (.bool (!decide (a = b))) w := by
  by_cases h : a = b
  · subst h
    go_simp
  · have k := text_list h
    go_simp
    all_goals simp_all
end Go.Proofs.Ytkoojfpafgkgiaa
