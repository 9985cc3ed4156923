/-
  Cells of registers as values and in memory; the contracts of the program's functions of chapter 15, as sentences that its laws start from. No conditions but those typed.
-/
import Derived.Test.YtkoojfpafgkgiaaRegMath
import Derived.Test.YtkoojfpafgkgiaaText
import Derived.Test.YtkoojfpafgkgiaaTextEq
import Derived.Test.YtkoojfpafgkgiaaI64
import Derived.Test.YtkoojfpafgkgiaaLies
namespace Go.Proofs.Ytkoojfpafgkgiaa
open Go.RowKit TextNat RegMath

/-- A register's cell as the program has it. -/
structure RegV where
  time : Int
  region : Int
  value : ByteArray
  gone : Bool
  life : Int
deriving DecidableEq
def RegV.cells (x : RegV) : List Value := [.int .i64 x.time, .int .i64 x.region, .string x.value, .bool x.gone, .int .i64 x.life]
def RegV.val (x : RegV) : Value := .agg #[.int .i64 x.time, .int .i64 x.region, .string x.value, .bool x.gone, .int .i64 x.life]
def RegV.c (x : RegV) : Cell := ⟨(x.time, x.region), nats x.value, x.gone, x.life⟩
def RegV.of (c : Cell) : RegV := ⟨c.st.1, c.st.2, txt c.val, c.gone, c.life⟩
theorem RegV.of_c (x : RegV) : RegV.of x.c = x := by
  unfold RegV.of RegV.c
  simp only [txt_nats]
theorem RegV.c_one {a b : RegV} (h : a.c = b.c) : a = b := by rw [← RegV.of_c a, ← RegV.of_c b, h]
theorem RegV.c_iff (a b : RegV) : a.c = b.c ↔ a = b := ⟨RegV.c_one, fun h => h ▸ rfl⟩
def zeroR : RegV := ⟨0, 0, ⟨#[]⟩, false, 0⟩
theorem zero_c : RegV.of zero = zeroR := rfl
/-- The one that wins. -/
def mergeV (l : List RegV) : RegV := RegV.of (merge (l.map RegV.c))
theorem merge_mem {l : List Cell} (h : l ≠ []) : merge l ∈ l := (merge_wins h).mem
theorem mergeV_mem {l : List RegV} (h : l ≠ []) : mergeV l ∈ l := by
  have h1 := merge_mem (l := l.map RegV.c) (by simpa using h)
  obtain ⟨x, hx, he⟩ := List.mem_map.1 h1
  unfold mergeV
  rw [← he, RegV.of_c]
  exact hx
theorem mergeV_c {l : List RegV} (h : l ≠ []) : (mergeV l).c = merge (l.map RegV.c) := by
  have h1 := merge_mem (l := l.map RegV.c) (by simpa using h)
  obtain ⟨x, hx, he⟩ := List.mem_map.1 h1
  unfold mergeV
  rw [← he, RegV.of_c]
/-- The cells xs stand from the address pp on, five places each. -/
def RegsIn (w : World) (pp : Option Addr) (xs : List RegV) : Prop := ∀ (i : Nat) (x : RegV), xs[i]? = some x → ∃ b off, pp = some ⟨b, off, none⟩ ∧ w.cell? ⟨b, off + i * 5, none⟩ = some (.int .i64 x.time) ∧ w.cell? ⟨b, off + i * 5 + 1, none⟩ = some (.int .i64 x.region) ∧ w.cell? ⟨b, off + i * 5 + 2, none⟩ = some (.string x.value) ∧ w.cell? ⟨b, off + i * 5 + 3, none⟩ = some (.bool x.gone) ∧ w.cell? ⟨b, off + i * 5 + 4, none⟩ = some (.int .i64 x.life)
theorem RegsIn.grown {w w' : World} {pp : Option Addr} {xs : List RegV} (h : RegsIn w pp xs) (hb : Below w.heap.size w w') : RegsIn w' pp xs := fun i a ha => by
  obtain ⟨b, off, hp, h0, h1, h2, h3, h4⟩ := h i a ha
  exact ⟨b, off, hp, (hb.cell (p := ⟨b, off + i * 5, none⟩) (World.block_lt_of_cell? w _ h0)).trans h0, (hb.cell (p := ⟨b, off + i * 5 + 1, none⟩) (World.block_lt_of_cell? w _ h1)).trans h1, (hb.cell (p := ⟨b, off + i * 5 + 2, none⟩) (World.block_lt_of_cell? w _ h2)).trans h2, (hb.cell (p := ⟨b, off + i * 5 + 3, none⟩) (World.block_lt_of_cell? w _ h3)).trans h3, (hb.cell (p := ⟨b, off + i * 5 + 4, none⟩) (World.block_lt_of_cell? w _ h4)).trans h4⟩
theorem RegsIn.addr {w : World} {pp : Option Addr} {xs : List RegV} (h : RegsIn w pp xs) (h0 : 0 < xs.length) : ∃ b off, pp = some ⟨b, off, none⟩ := by
  obtain ⟨b, off, hp, _⟩ := h 0 _ (List.getElem?_eq_getElem h0)
  exact ⟨b, off, hp⟩
theorem RegsIn.look {w : World} {b off : Nat} {xs : List RegV} (h : RegsIn w (some ⟨b, off, none⟩) xs) {i : Nat} {x : RegV} (hx : xs[i]? = some x) : w.cell? ⟨b, off + i * 5, none⟩ = some (.int .i64 x.time) ∧ w.cell? ⟨b, off + i * 5 + 1, none⟩ = some (.int .i64 x.region) ∧ w.cell? ⟨b, off + i * 5 + 2, none⟩ = some (.string x.value) ∧ w.cell? ⟨b, off + i * 5 + 3, none⟩ = some (.bool x.gone) ∧ w.cell? ⟨b, off + i * 5 + 4, none⟩ = some (.int .i64 x.life) := by
  obtain ⟨b', off', hp, hh⟩ := h i x hx
  obtain ⟨rfl, rfl⟩ : b = b' ∧ off = off' := by simpa using hp
  exact hh
/-- A piece of them. -/
theorem RegsIn.piece {w : World} {b off : Nat} {xs : List RegV} (h : RegsIn w (some ⟨b, off, none⟩) xs) (a n : Nat) : RegsIn w (some ⟨b, off + a * 5, none⟩) ((xs.drop a).take n) := fun i x hx => by
  rw [List.getElem?_take] at hx
  split at hx
  · rw [List.getElem?_drop] at hx
    obtain ⟨h0, h1, h2, h3, h4⟩ := h.look hx
    have e : off + a * 5 + i * 5 = off + (a + i) * 5 := by omega
    exact ⟨b, off + a * 5, rfl, by rw [e]; exact h0, by rw [e]; exact h1, by rw [e]; exact h2, by rw [e]; exact h3, by rw [e]; exact h4⟩
  · cases hx
/-- '==' of two cells. -/
theorem eql_reg (a b : RegV) (w : World) : (binOp .eql 28 a.val b.val).run Try.prog w = .ok (.bool (decide (a = b))) w := by
  obtain ⟨a1, a2, a3, a4, a5⟩ := a
  obtain ⟨b1, b2, b3, b4, b5⟩ := b
  unfold RegV.val
  by_cases h1 : a1 = b1
  · by_cases h2 : a2 = b2
    · by_cases h3 : a3 = b3
      · by_cases h4 : a4 = b4
        · by_cases h5 : a5 = b5
          · subst h1; subst h2; subst h3; subst h4; subst h5
            rw [decide_eq_true rfl]
            go_simp
          · rw [decide_eq_false (by simp [h5])]
            subst h1; subst h2; subst h3; subst h4
            go_simp
        · rw [decide_eq_false (by simp [h4])]
          subst h1; subst h2; subst h3
          go_simp
      · rw [decide_eq_false (by simp [h3])]
        have k := text_list h3
        subst h1; subst h2
        go_simp
    · rw [decide_eq_false (by simp [h2])]
      subst h1
      go_simp
  · rw [decide_eq_false (by simp [h1])]
    go_simp
def AboveOk : Prop := ∀ (a b : RegV) (w : World), Calls Try.prog 11 #[a.val, b.val] w fun e w' => e = .returned (.bool (above a.c b.c)) ∧ Below w.heap.size w w'
/-- Values that a machine can hold. -/
def ShortR (xs : List RegV) : Prop := ∀ x ∈ xs, x.value.size ≤ 281474976710656
theorem ShortR.mem {xs ys : List RegV} (h : ShortR xs) (hs : ∀ y ∈ ys, y ∈ xs) : ShortR ys := fun y hy => h y (hs y hy)
theorem ShortR.one {xs : List RegV} (h : ShortR xs) (hn : xs ≠ []) : (mergeV xs).value.size ≤ 281474976710656 := h _ (mergeV_mem hn)
theorem ShortR.two {a b : RegV} (ha : a.value.size ≤ 281474976710656) (hb : b.value.size ≤ 281474976710656) : ShortR [a, b] := fun y hy => by
  rcases List.mem_cons.1 hy with rfl | hy
  · exact ha
  · rw [List.mem_singleton.1 hy]; exact hb
def MergeOk : Prop := ∀ (pp : Option Addr) (cap : Nat) (xs : List RegV) (w : World), RegsIn w pp xs → xs.length ≤ cap → cap ≤ 9223372036854775807 → xs.length ≤ 1000 → ShortR xs → Calls Try.prog 13 #[.slice pp xs.length cap] w fun e w' => e = .returned (mergeV xs).val ∧ Below w.heap.size w w'
def VisibleOk : Prop := ∀ (a : RegV) (w : World), Calls Try.prog 9 #[a.val] w fun e w' => e = .returned (.bool (decide (0 < a.time) && !a.gone)) ∧ Below w.heap.size w w'
/-- The example of chapter 15, as its laws ask it. -/
def AwakeOk : Prop := ∀ w : World, Calls Try.prog 7 #[] w fun e w' => e = .returned (.bool true) ∧ Below w.heap.size w w'
end Go.Proofs.Ytkoojfpafgkgiaa
