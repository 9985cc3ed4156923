/-
  append of a text's bytes onto a row of bytes of one's own, told where the row lies then. No conditions but those typed.
-/
import Derived.Test.YtaniekpkcihpiaaGrow
import Derived.Lib.AppendStr
namespace Go.Proofs.Ytaniekpkcihpiaa
open Go.RowKit TextNat

section
variable {w w' : World} {n cap : Nat} {p : Option Addr}
theorem own_cases {B : Nat} {e : TypeId} {xs : List Value} (h : w.ownsRow B e 1 (.slice p n cap) n xs) : (p = none ∧ n = 0 ∧ cap = 0) ∨ ∃ g cur, p = some ⟨g, 0, none⟩ ∧ w.heap[g]? = some (.cells cur e (0, 0)) ∧ n ≤ cap := by
  rcases h.2 with ⟨h1, h2⟩ | ⟨g, cap', cur, h1, h2, h3, h4, _⟩
  · simp at h1
    exact .inl ⟨h1.1, h2, h1.2.2⟩
  · simp at h1
    exact .inr ⟨g, cur, h1.1, h3, by omega⟩
theorem own_lt {B : Nat} {e : TypeId} {xs : List Value} (h : w.ownsRow B e 1 (.slice p n cap) n xs) : ∀ k, p.map (·.block) = some k → k < w.heap.size := by
  intro k hk
  rcases own_cases h with ⟨rfl, _⟩ | ⟨g, cur, rfl, hg, _⟩
  · cases hk
  · simp at hk
    subst hk
    exact (Array.getElem?_eq_some_iff.1 hg).1
theorem own_keep {B : Nat} {e : TypeId} {xs : List Value} (h : w.ownsRow B e 1 (.slice p n cap) n xs) (hk : ∀ k, p.map (·.block) = some k → w'.heap[k]? = w.heap[k]?) : w'.ownsRow B e 1 (.slice p n cap) n xs := by
  refine ⟨h.1, ?_⟩
  rcases h.2 with h2 | ⟨g, cap', cur, h1, h2, h3, h4⟩
  · exact .inl h2
  · refine .inr ⟨g, cap', cur, h1, h2, ?_, h4⟩
    simp at h1
    rw [hk g (by rw [h1.1]; rfl)]
    exact h3
end
theorem strs_nats (s : ByteArray) : Lib.strCells s = byteVals (nats s) := by
  unfold Lib.strCells byteVals nats
  rw [List.map_map]
  rfl
theorem bytes_app (a b : List Nat) : byteVals (a ++ b) = byteVals a ++ byteVals b := by unfold byteVals; rw [List.map_append]
theorem bytes_take (a : List Nat) (n : Nat) : byteVals (a.take n) = (byteVals a).take n := by unfold byteVals; rw [List.map_take]
/-- append of a text's bytes onto a device's row: the row lies where it lay, or in a new block. -/
theorem put_text {ops : Array Oper} {rest : List Oper} {o : Oper} {ac : Act} {Q : Exit → Act → World → Prop} {w : World} (hgd : o.guard = none) (s x : Operand)
    (ho : o.op = .call { callee := .builtin .append, args := #[s, x], argTypes := #[39, 9] })
    (p : Option Addr) (n cap : Nat) (l : List Nat) (hs : ac.eval s = .slice p n cap) (hown : w.ownsRow 0 5 1 (.slice p n cap) n (byteVals l)) (t : ByteArray) (hx : ac.eval x = .string t) (hz : n + t.size ≤ 10000000)
    (h : ∀ p' cap' w', w'.ownsRow 0 5 1 (.slice p' (n + t.size) cap') (n + t.size) (byteVals (l ++ nats t)) → w.grownBy w' (p.map (·.block)) → (∀ k, p'.map (·.block) = some k → p.map (·.block) = some k ∨ w.heap.size ≤ k) →
      wpList Try.prog ops Q rest (ac.put o.dst (.slice p' (n + t.size) cap')) w') : wpList Try.prog ops Q (o :: rest) ac w := by
  obtain ⟨ib, hib, hb0, hb1, hb2⟩ := info_parts info_byte
  refine wpList_plain hgd fun K hK => ?_
  obtain ⟨v', w', hr, h2, h3, h4⟩ := Lib.run_append_own_string (P := Try.prog) w 0 39 9 o.type 5 ib Try.underlying39 Try.underlying9 hib hb0 hb1 hb2 _ _ _ hown t (by unfold maxLen; omega) (by omega) (Nat.zero_le _)
  obtain ⟨p', cap', rfl⟩ : ∃ p' cap', v' = .slice p' (n + t.size) cap' := by
    obtain ⟨p', cap', e⟩ := (OwnsM.of h2).shape
    exact ⟨p', cap', e⟩
  have hp : ∀ k, p'.map (·.block) = some k → p.map (·.block) = some k ∨ w.heap.size ≤ k := by
    intro k hk
    rcases own_cases hown with ⟨rfl, rfl, rfl⟩ | ⟨g, cur, rfl, hg, hnc⟩
    · by_cases h0 : t.size = 0
      · have := h4.2 ⟨rfl, h0⟩
        simp at this
        rw [this.1] at hk
        cases hk
      · have hr2 := run_append_nil_string (P := Try.prog) w 39 9 o.type 5 ib (.int .u8 0) Try.underlying39 Try.underlying9 hib hb0 t (by omega) (by omega) (by rw [hb2]; omega)
        rw [hr2] at hr
        simp at hr
        rw [← hr.1.1] at hk
        simp at hk
        right
        omega
    · rcases hown.2 with ⟨h1, _⟩ | ⟨g', cap2, cur2, h5, h6, h7, h8, h9, h10, h11⟩
      · simp at h1
      · simp only [Value.slice.injEq, Option.some.injEq, Addr.mk.injEq, and_true, true_and] at h5
        obtain ⟨rfl, rfl⟩ := h5
        by_cases hroom : n + t.size ≤ cap
        · have hr2 := Lib.run_append_room_string (P := Try.prog) w 39 9 o.type 5 ib Try.underlying39 Try.underlying9 hib hb1 g n cap cur2 h7 t hroom (by omega)
          rw [hr2] at hr
          simp at hr
          rw [← hr.1.1] at hk
          exact .inl hk
        · have hr2 := Lib.run_append_grow_string (P := Try.prog) w 39 9 o.type 5 ib (.int .u8 0) Try.underlying39 Try.underlying9 hib hb0 ⟨g, 0, none⟩ n cap (byteVals l) (by rw [hb1]; exact hown.1) (hown.cells (g := g) rfl) t (by omega) (by omega) (by rw [hb2]; exact growslice_fits (by omega) (by omega))
          rw [hr2] at hr
          simp at hr
          rw [← hr.1.1] at hk
          simp at hk
          right
          omega
  unfold Oper.wp execOp
  simp only [ho, resolve, invoke, builtin, Sem.run_bind, Sem.run_pure, Result.andThen_ok, List.map_toArray, List.map_cons, List.map_nil, hs, hx, hr]
  refine hK _ _ (h p' cap' w' ?_ ?_ hp)
  · rw [bytes_app, ← strs_nats]
    exact h2
  · cases p <;> exact h3
theorem own_take {w : World} {p : Option Addr} {n cap m : Nat} {l : List Nat} (h : w.ownsRow 0 5 1 (.slice p n cap) n (byteVals l)) (hm : m ≤ n) : w.ownsRow 0 5 1 (.slice p m cap) m (byteVals (l.take m)) := by
  have hl := h.1
  rw [byteVals_len] at hl
  refine ⟨by rw [byteVals_len, List.length_take]; omega, ?_⟩
  rcases h.2 with ⟨h1, h2⟩ | ⟨g, cap', cur, h1, h2, h3, h4, h5, h6, h7⟩
  · simp at h1
    obtain ⟨rfl, rfl, rfl⟩ := h1
    obtain rfl : m = 0 := by omega
    exact .inl ⟨rfl, rfl⟩
  · simp at h1
    obtain ⟨rfl, rfl⟩ := h1
    refine .inr ⟨g, cap, cur, rfl, h2, h3, by omega, h5, h6, ?_⟩
    rw [bytes_take, ← h7, List.take_take]
    congr 1
    omega
end Go.Proofs.Ytaniekpkcihpiaa
