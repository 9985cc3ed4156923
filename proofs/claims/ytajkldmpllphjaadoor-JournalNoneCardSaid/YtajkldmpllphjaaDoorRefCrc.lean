/-
  The contract of the document's own Sum of chapter 2: of any bytes (up to 20000) it is the sum, and old memory is as it was. The condition: the slice's cells are told.
-/
import Derived.Test.YtajkldmpllphjaaDoorProg
import Derived.Test.YtajkldmpllphjaaDoorPart01
import Derived.WalkKit
import Derived.Handy
import Derived.Outline
import Derived.Lib.Hide
import Derived.OwnWalk
import Derived.Deep.LoopGhost
namespace Go.Proofs.YtajkldmpllphjaaDoor
open Go.RowKit CrcMath

theorem info3 : (Tryd.prog.info? 3).map (fun i => (i.zero, i.size, i.bytes)) = some (some (.int .i64 0), 1, 8) := by kernel_rfl

def b2i (b : Bool) : Int := if b then 1 else 0
/-- The first m bits of some bytes, as values. -/
def bitVals (zs : List Nat) (m : Nat) : List Value := (List.range m).map fun j => .int .i64 (b2i (mbit zs j))
theorem bitVals_succ (zs : List Nat) (m : Nat) : bitVals zs (m + 1) = bitVals zs m ++ [.int .i64 (b2i (mbit zs m))] := by
  unfold bitVals
  rw [List.range_succ, List.map_append]
  rfl
theorem bitVals_len (zs : List Nat) (m : Nat) : (bitVals zs m).length = m := by simp [bitVals]

theorem own_shape' {w : World} {base : Nat} {e : TypeId} {size : Nat} {v : Value} {n : Nat} {xs : List Value} (h : w.ownsRow base e size v n xs) : ∃ p cap, v = .slice p n cap := by
  rcases h.2 with ⟨rfl, rfl⟩ | ⟨g, cap, cur, rfl, _⟩
  · exact ⟨_, _, rfl⟩
  · exact ⟨_, _, rfl⟩
theorem one_new' (w : World) (u : Value) (T : TypeId) : ∀ j x, [u][j]? = some x → (w.alloc (.cells #[u] T)).cell? ((⟨w.heap.size, 0, none⟩ : Addr).add j) = some x := by
  intro j x hj
  match j, hj with
  | 0, hj => simp at hj; subst hj; simp [Addr.add]

/-- The row of bits at block G: N cells; they may be written. -/
structure Cells (G N : Nat) (f : Nat → Bool) (w : World) : Prop where
  cell : ∀ j, j < N → w.cell? ⟨G, j, none⟩ = some (.int .i64 (b2i (f j)))
  free : ∀ j, w.frozen? ⟨G, j, none⟩ = false
theorem Cells.set {G N t : Nat} {f : Nat → Bool} {w : World} (h : Cells G N f w) (ht : t < N) (b : Bool) : Cells G N (fun j => if j = t then b else f j) (w.setCell ⟨G, t, none⟩ (.int .i64 (b2i b))) := by
  refine ⟨fun j hj => ?_, fun j => by rw [World.frozen?_setCell]; exact h.free j⟩
  by_cases hjt : j = t
  · subst hjt
    rw [if_pos rfl]
    exact World.cell?_setCell_same _ _ _ (h.cell j hj)
  · rw [if_neg hjt]
    exact (World.cell?_setCell_other _ ⟨G, t, none⟩ ⟨G, j, none⟩ _ (by simp)).trans (h.cell j hj)
theorem Cells.congr {G N : Nat} {f f' : Nat → Bool} {w : World} (h : Cells G N f w) (he : ∀ j, j < N → f j = f' j) : Cells G N f' w :=
  ⟨fun j hj => by rw [← he j hj]; exact h.cell j hj, h.free⟩
theorem Cells.below {G N : Nat} {f : Nat → Bool} {w w' : World} (h : Cells G N f w) (hG : G < w.heap.size) (hb : Below w.heap.size w w') : Cells G N f w' :=
  ⟨fun j hj => (hb.cell (p := ⟨G, j, none⟩) hG).trans (h.cell j hj), fun j => (hb.frozen (p := ⟨G, j, none⟩) hG).trans (h.free j)⟩
theorem b2i_le (b : Bool) : 0 ≤ b2i b ∧ b2i b ≤ 1 := by cases b <;> decide
theorem b2i_not (b : Bool) : 1 - b2i b = b2i (!b) := by cases b <;> rfl

theorem turned_succ (zs : List Nat) (t j : Nat) : (if j = t then !mbit zs t else if j < t then !mbit zs j else mbit zs j) = (if j < t + 1 then !mbit zs j else mbit zs j) := by
  by_cases h : j = t
  · subst h
    rw [if_pos rfl, if_pos (by omega)]
  · rw [if_neg h]
    by_cases h2 : j < t
    · rw [if_pos h2, if_pos (by omega)]
    · rw [if_neg h2, if_neg (by omega)]

/-- The row in the midst of a round at bit i: q bits of those that are turned are turned. -/
def part (L : Nat → Bool) (i q : Nat) : Nat → Bool := fun j => L j ^^ decide (i ≤ j ∧ j - i ∈ offs.take q)
theorem part_zero (L : Nat → Bool) (i j : Nat) : L j = part L i 0 j := by simp [part]
theorem offs_table : ∀ q, q < 17 → (offs[q]?).any (fun d => !(offs.take q).contains d && offs.take (q + 1) == offs.take q ++ [d] && decide (4 ≤ d) && decide (d ≤ 32)) = true := by decide
theorem offs_new (q : Nat) (hq : q < 17) (d : Nat) (hd : offs[q]? = some d) : ¬ d ∈ offs.take q ∧ offs.take (q + 1) = offs.take q ++ [d] ∧ 4 ≤ d ∧ d ≤ 32 := by
  have h := offs_table q hq
  rw [hd] at h
  simp only [Option.any_some, Bool.and_eq_true, Bool.not_eq_true', decide_eq_true_eq, beq_iff_eq] at h
  obtain ⟨⟨⟨h1, h2⟩, h3⟩, h4⟩ := h
  exact ⟨fun hm => by simp [hm] at h1, h2, h3, h4⟩
theorem part_succ (L : Nat → Bool) (i q d j : Nat) (hq : q < 17) (hd : offs[q]? = some d) : (if j = i + d then !part L i q (i + d) else part L i q j) = part L i (q + 1) j := by
  obtain ⟨h1, h2, _, _⟩ := offs_new q hq d hd
  unfold part
  rw [h2]
  by_cases hj : j = i + d
  · subst hj
    have e : i + d - i = d := by omega
    rw [if_pos rfl, e]
    simp [h1, Nat.le_add_right]
  · rw [if_neg hj]
    congr 1
    have hne : ¬ (i ≤ j ∧ j - i = d) := fun h => hj (by omega)
    rw [decide_eq_decide]
    constructor
    · exact fun h => ⟨h.1, List.mem_append_left _ h.2⟩
    · intro h
      refine ⟨h.1, ?_⟩
      rcases List.mem_append.1 h.2 with h3 | h3
      · exact h3
      · exact absurd ⟨h.1, List.mem_singleton.1 h3⟩ hne
theorem part_all (zs : List Nat) (i j : Nat) (h : rows zs i i = true) : part (rows zs i) i 17 j = rows zs (i + 1) j := by
  show _ = rowStep (rows zs i) i j
  unfold part rowStep
  rw [h]
  rfl
theorem rows_still (zs : List Nat) (i j : Nat) (h : rows zs i i = false) : rows zs i j = rows zs (i + 1) j := by
  show _ = rowStep (rows zs i) i j
  unfold rowStep
  rw [h]
  rfl

/-- The powers at block P. -/
def Powers (P : Nat) (w : World) : Prop := ∀ (q d : Nat), offs[q]? = some d → w.cell? ⟨P, q, none⟩ = some (.int .i64 (32 - (d : Int)))
theorem powers_new (w : World) : Powers w.heap.size (w.alloc (.cells #[.int .i64 28, .int .i64 27, .int .i64 26, .int .i64 25, .int .i64 23, .int .i64 22, .int .i64 20, .int .i64 19, .int .i64 18, .int .i64 14, .int .i64 13, .int .i64 11, .int .i64 10, .int .i64 9, .int .i64 8, .int .i64 6, .int .i64 0] 3)) := by
  intro q d hd
  have hC : (#[.int .i64 28, .int .i64 27, .int .i64 26, .int .i64 25, .int .i64 23, .int .i64 22, .int .i64 20, .int .i64 19, .int .i64 18, .int .i64 14, .int .i64 13, .int .i64 11, .int .i64 10, .int .i64 9, .int .i64 8, .int .i64 6, .int .i64 0] : Array Value) = (offs.map fun (d : Nat) => Value.int .i64 (32 - (d : Int))).toArray := rfl
  rw [hC, World.cell?_alloc_at _ _ _ _ rfl, List.getElem?_toArray, List.getElem?_map, hd]
  rfl
theorem Powers.set {P G j : Nat} {w : World} {v : Value} (h : Powers P w) (hne : G ≠ P) : Powers P (w.setCell ⟨G, j, none⟩ v) := fun q d hd =>
  (World.cell?_setCell_other _ ⟨G, j, none⟩ ⟨P, q, none⟩ _ (by simp)).trans (h q d hd)

theorem gather_yes (f : Nat → Bool) (t : Nat) (h : f t = true) : gather f (t + 1) = gather f t + 2 ^ t := by
  show gather f t + (if f t then 2 ^ t else 0) = _
  rw [if_pos h]
theorem gather_no (f : Nat → Bool) (t : Nat) (h : f t = false) : gather f (t + 1) = gather f t := by
  show gather f t + (if f t then 2 ^ t else 0) = _
  rw [h]
  rfl

/-- A row that is owned, of at least one cell, as such a row of bits. -/
theorem cells_of_own {zs : List Nat} {base N : Nat} {v : Value} {w : World} (h : w.ownsRow base 3 1 v N (bitVals zs N)) (hN : 0 < N) :
    ∃ G cap, v = .slice (some ⟨G, 0, none⟩) N cap ∧ base ≤ G ∧ G < w.heap.size ∧ Cells G N (mbit zs) w := by
  rcases h.2 with ⟨_, h0⟩ | ⟨G, cap, cur, rfl, hG, hh, _⟩
  · omega
  · refine ⟨G, cap, rfl, hG, (h.lt G rfl).2, fun j hj => ?_, fun j => by simp [World.frozen?, hh]⟩
    rw [h.cellAt j (by omega)]
    unfold bitVals
    rw [List.getElem?_map, List.getElem?_range hj]
    rfl

theorem bit_val (zs : List Nat) (k t z y : Nat) (hk : zs[k]? = some z) (ht : t < 8) (hy : y = z / 2 ^ t) : Value.int .i64 (b2i (mbit zs (8 * k + t))) = .int .i64 ((y : Int) % 2) := by
  have h1 : mbit zs (8 * k + t) = z.testBit t := by
    rw [mbit_at zs k t ht]
    simp [List.getD, hk]
  have h2 := bit_toNat z t
  rw [← hy] at h2
  rw [h1]
  congr 1
  cases hb : z.testBit t
  · rw [hb] at h2
    have h3 : y % 2 = 0 := h2
    show (0 : Int) = _
    omega
  · rw [hb] at h2
    have h3 : y % 2 = 1 := h2
    show (1 : Int) = _
    omega

end Go.Proofs.YtajkldmpllphjaaDoor
