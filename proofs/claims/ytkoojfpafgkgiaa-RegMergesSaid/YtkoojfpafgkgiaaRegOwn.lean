/-
  Rows of cells that the call itself makes by append: what they are, and that they stay. No program is run here.
-/
import Derived.Test.YtkoojfpafgkgiaaRegLaws
import Derived.Laws.AppendOwn
import Derived.Laws.OwnMore
namespace Go.Proofs.Ytkoojfpafgkgiaa
open Go.RowKit TextNat RegMath

theorem info_ref15 : (Try.prog.info? 31).map (fun i => (i.zero, i.size, i.bytes)) = some (some (.agg #[.int .i64 0, .int .i64 0, .string ⟨#[]⟩, .bool false, .int .i64 0]), 5, 48) := by kernel_rfl
theorem rcells_len : ∀ A : List RegV, (A.flatMap RegV.cells).length = A.length * 5
  | [] => rfl
  | x :: r => by
    rw [List.flatMap_cons, List.length_append, rcells_len r, List.length_cons]
    show 5 + _ = _
    omega
theorem rcells_at : ∀ {A : List RegV} {i : Nat} {a : RegV}, A[i]? = some a → ∀ (j : Nat) (u : Value), a.cells[j]? = some u → (A.flatMap RegV.cells)[i * 5 + j]? = some u
  | x :: r, 0, a, h, j, u, hu => by
    obtain rfl : x = a := by simpa using h
    have hj := (List.getElem?_eq_some_iff.1 hu).1
    rw [List.flatMap_cons, Nat.zero_mul, Nat.zero_add, List.getElem?_append_left hj]
    exact hu
  | x :: r, i + 1, a, h, j, u, hu => by
    have h2 : r[i]? = some a := by simpa using h
    have k := rcells_at h2 j u hu
    rw [List.flatMap_cons, show (i + 1) * 5 + j = (RegV.cells x).length + (i * 5 + j) by show (i + 1) * 5 + j = 5 + (i * 5 + j); omega, List.getElem?_append_right (by omega), Nat.add_sub_cancel_left]
    exact k
/-- A row of one's own that holds these cells. -/
def OwnR (T : TypeId) (w : World) (B : Nat) (v : Value) (A : List RegV) : Prop := w.ownsRow B T 5 v A.length (A.flatMap RegV.cells)
theorem OwnR.nil (T : TypeId) (w : World) (B : Nat) : OwnR T w B (.slice none 0 0) [] := World.ownsRow_nil w B _ 5
theorem OwnR.shape {T : TypeId} {w : World} {B : Nat} {v : Value} {A : List RegV} (h : OwnR T w B v A) : ∃ p c, v = .slice p A.length c := by
  rcases h.2 with ⟨rfl, h0⟩ | ⟨g, cap, cur, rfl, _⟩
  · exact ⟨none, 0, by rw [h0]⟩
  · exact ⟨_, _, rfl⟩
theorem OwnR.more {T : TypeId} {w : World} {B : Nat} {v : Value} {A : List RegV} {a : RegV} {n : Nat} (hn : n = A.length) (h : w.ownsRow B T 5 v (n + 1) (A.flatMap RegV.cells ++ a.cells)) : OwnR T w B v (A ++ [a]) := by
  subst hn
  unfold OwnR
  rw [List.length_append, List.flatMap_append]
  simpa using h
theorem OwnR.below {T : TypeId} {w w' : World} {B : Nat} {v : Value} {A : List RegV} (h : OwnR T w B v A) (hb : Below w.heap.size w w') : OwnR T w' B v A := by
  refine ⟨h.1, ?_⟩
  rcases h.2 with h2 | ⟨g, cap, cur, h3, h4, h5, h6⟩
  · exact .inl h2
  · exact .inr ⟨g, cap, cur, h3, h4, (hb.block g (Array.getElem?_eq_some_iff.1 h5).1).trans h5, h6⟩
theorem OwnR.regs {T : TypeId} {w : World} {B : Nat} {p : Option Addr} {n c : Nat} {A : List RegV} (h : OwnR T w B (.slice p n c) A) : RegsIn w p A := fun i a ha => by
  have hi := (List.getElem?_eq_some_iff.1 ha).1
  rcases h.2 with ⟨_, h2⟩ | ⟨g, cap, cur, h3, h4, h5, h6⟩
  · omega
  · have hv : Value.slice p n c = .slice (some ⟨g, 0, none⟩) A.length cap := h3
    obtain ⟨rfl, rfl, rfl⟩ : p = some ⟨g, 0, none⟩ ∧ n = A.length ∧ c = cap := by simpa using hv
    have h' : w.ownsRow B T 5 (.slice (some ⟨g, 0, none⟩) A.length c) A.length (A.flatMap RegV.cells) := h
    refine ⟨g, 0, rfl, ?_, ?_, ?_, ?_, ?_⟩
    · rw [Nat.zero_add, h'.cellAt _ (by omega)]; exact rcells_at ha 0 _ rfl
    · rw [Nat.zero_add, h'.cellAt _ (by omega)]; exact rcells_at ha 1 _ rfl
    · rw [Nat.zero_add, h'.cellAt _ (by omega)]; exact rcells_at ha 2 _ rfl
    · rw [Nat.zero_add, h'.cellAt _ (by omega)]; exact rcells_at ha 3 _ rfl
    · rw [Nat.zero_add, h'.cellAt _ (by omega)]; exact rcells_at ha 4 _ rfl
theorem rcell_one (a : RegV) : ∀ u ∈ a.cells, u.oneCell' = true := by
  intro u hu
  unfold RegV.cells at hu
  simp only [List.mem_cons, List.not_mem_nil, or_false] at hu
  rcases hu with rfl | rfl | rfl | rfl | rfl <;> rfl
/-- The cells that a row of one is made with. -/
theorem five_put (w : World) (a : RegV) (T : TypeId) (B : Nat) (hB : B = w.heap.size) : ∀ j x, a.cells[j]? = some x → (w.alloc (.cells #[.int .i64 a.time, .int .i64 a.region, .string a.value, .bool a.gone, .int .i64 a.life] T)).cell? ((⟨B, 0, none⟩ : Addr).add j) = some x := by
  subst hB
  unfold RegV.cells
  intro j x hj
  match j, hj with
  | 0, hj => simp at hj; subst hj; simp [Addr.add]
  | 1, hj => simp at hj; subst hj; simp [Addr.add]
  | 2, hj => simp at hj; subst hj; simp [Addr.add]
  | 3, hj => simp at hj; subst hj; simp [Addr.add]
  | 4, hj => simp at hj; subst hj; simp [Addr.add]
end Go.Proofs.Ytkoojfpafgkgiaa
