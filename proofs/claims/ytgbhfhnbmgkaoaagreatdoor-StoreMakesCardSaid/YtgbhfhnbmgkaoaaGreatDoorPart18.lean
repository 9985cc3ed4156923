/-
  Texts of one claim, merged.
  Arrays: Arrays of integers, for any program: '==' of two of them; how one that came in is opened and reads as data; what a variable that holds one is, given what it reads as. Bytes that came in as a slice. No conditions but those typed.
  RowBase: What each row that lists no variable begins with: a world to begin in, the bound on a text that came in. No conditions.
  OpenBase: Slices of ints and fields of structs that came in: what their cells are. No program is run here.
-/
import Derived.ChangeKeysEq
import Derived.ChangeSlices
import Derived.Carry
import Derived.RowKit
import Derived.ProofKit
import Derived.Test.YtgbhfhnbmgkaoaaGreatDoorPart01
import Derived.Test.YtgbhfhnbmgkaoaaGreatDoorRows
import Derived.SevenTiedAt
import Derived.ChangeMaps5
namespace Go.Proofs.YtgbhfhnbmgkaoaaGreatDoor
open Go.RowKit Go.ChangeShapes Go.WideShapes

/-- The integers of an array, as a value. -/
def intsVal (k : IntKind) (xs : List Int) : Value := .agg (xs.map (Value.int k)).toArray

section
variable {P : Program}
theorem eqItems_ints {e : TypeId} {k : IntKind} (he : P.underlying e = some (.int k)) (hp : P.plainKey e = true) (hc : P.cellsOf e = 1) (d : Nat) (w : World) (xs ys : List Int) : ∀ (is : List Nat), (∀ i ∈ is, i < xs.length ∧ i < ys.length) →
    (Op.eqItems (d + 1) e (P.cellsOf e) (xs.map (Value.int k)).toArray (ys.map (Value.int k)).toArray is).run P w = .ok (is.all fun i => xs.getD i 0 == ys.getD i 0) w
  | [], _ => by simp [Op.eqItems]
  | i :: is, h => by
    obtain ⟨hx, hy⟩ := h i (by simp)
    have p1 := run_part_plain (P := P) w hp (xs := (xs.map (Value.int k)).toArray) (off := i) (v := .int k (xs.getD i 0)) (by simp [List.getD, hx])
    have p2 := run_part_plain (P := P) w hp (xs := (ys.map (Value.int k)).toArray) (off := i) (v := .int k (ys.getD i 0)) (by simp [List.getD, hy])
    have p3 := run_equalIn_int (P := P) w d e k k (xs.getD i 0) (ys.getD i 0) he
    have ih := eqItems_ints he hp hc d w xs ys is (fun j hj => h j (by simp [hj]))
    simp only [Op.eqItems, Sem.run_bind, hc, Nat.mul_one, p1, p2, p3, Result.andThen_ok, List.all_cons]
    rw [hc] at ih
    cases hq : (xs.getD i 0 == ys.getD i 0)
    · simp
    · simpa using ih

theorem all_range_eq : ∀ (xs ys : List Int), xs.length = ys.length → ((List.range xs.length).all fun i => xs.getD i 0 == ys.getD i 0) = decide (xs = ys) := by
  intro xs ys h
  rw [Bool.eq_iff_iff]
  simp only [List.all_eq_true, List.mem_range, beq_iff_eq, decide_eq_true_eq]
  constructor
  · intro ha
    apply List.ext_getElem h
    intro i h1 h2
    have := ha i h1
    simpa [List.getD, h1, h2] using this
  · rintro rfl i _; rfl

/-- '==' of two arrays of integers. -/
theorem equal_ints {t e : TypeId} {n : Nat} {k : IntKind} {i : TypeInfo} (hu : P.underlying t = some (.array n e)) (he : P.underlying e = some (.int k)) (hi : P.info? e = some i) (hp : P.plainKey e = true) (hc : P.cellsOf e = 1)
    (d : Nat) (w : World) (xs ys : List Int) (hx : xs.length = n) (hy : ys.length = n) : (Op.equalIn (d + 2) t (intsVal k xs) (intsVal k ys)).run P w = .ok (decide (xs = ys)) w := by
  unfold intsVal
  rw [run_equalIn_array w (d + 1) _ _ hu hi, eqItems_ints he hp hc d w xs ys _ (fun j hj => by simp at hj; omega), ← hx, all_range_eq xs ys (by omega)]

variable {H : Type} {enc : TypeId × Value → H} {w : World} {base : Nat} {sp : Nat → Bool} {held : Bool}

theorem mapM_ints {e : TypeId} {k : IntKind} (he : P.underlying e = some (.int k)) (hc : P.cellsOf e = 1) {m : Nat} : ∀ (L : List Nat) (cs : List Value) (xs : List (DataW H × List MemPlace)),
    L.mapM (fun i => DataW.trod enc P w base sp held m e ((cs.drop (i * P.cellsOf e)).take (P.cellsOf e))) = some xs →
    ∃ zs : List Int, xs = zs.map (fun z => (.lit (.int k z), [])) ∧ L.map (fun i => (cs.drop i).take 1) = zs.map (fun z => [Value.int k z]) ∧ ∀ z ∈ zs, (Lit.int k z).wf = true
  | [], cs, xs, h => by
    simp at h
    subst h
    exact ⟨[], rfl, rfl, by simp⟩
  | i :: L, cs, xs, h => by
    rw [List.mapM_cons] at h
    simp only [bind, Option.bind_eq_some_iff, pure, Option.some.injEq] at h
    obtain ⟨y, hy, ys, hys, rfl⟩ := h
    obtain ⟨zs, rfl, hl, hw⟩ := mapM_ints he hc L cs ys hys
    obtain ⟨a, ea, rfl, wa⟩ := DataW.trod_int he hy
    rw [hc, Nat.mul_one] at ea
    refine ⟨a :: zs, rfl, ?_, ?_⟩
    · rw [List.map_cons, List.map_cons, hl, ea]
    · intro z hz
      rcases List.mem_cons.1 hz with rfl | hz
      · exact wa
      · exact hw z hz

theorem chunks_ones {α : Type} : ∀ (cs : List α), (List.range cs.length).map (fun i => (cs.drop i).take 1) = cs.map fun c => [c] := by
  intro cs
  apply List.ext_getElem?
  intro i
  by_cases h : i < cs.length
  · simp [h, List.take_one, List.head?_drop]
  · simp [h]

/-- What reads as an array of these integers is one. -/
theorem cells_of_ints {t e : TypeId} {n : Nat} {k : IntKind} (hu : P.underlying t = some (.array n e)) (he : P.underlying e = some (.int k)) (hc : P.cellsOf e = 1) (hn : P.cellsOf t = n) {fuel : Nat} {cs : List Value} {d : DataW H} {p : List MemPlace}
    (h : DataW.trod enc P w base sp held fuel t cs = some (d, p)) : ∃ zs : List Int, zs.length = n ∧ cs = zs.map (Value.int k) ∧ d = .agg (zs.map fun z => .lit (.int k z)) ∧ p = [] ∧ ∀ z ∈ zs, (Lit.int k z).wf = true := by
  cases fuel with
  | zero => simp [DataW.trod] at h
  | succ m =>
    rw [DataW.trod_step] at h
    unfold DataW.trodStep at h
    simp only [hu] at h
    split at h
    · rename_i hl
      rw [hn] at hl
      simp only [Option.map_eq_some_iff] at h
      obtain ⟨ys, hy, e1⟩ := h
      obtain ⟨zs, rfl, hz, hw⟩ := mapM_ints he hc _ cs ys hy
      rw [← hl, chunks_ones] at hz
      have hcs : cs = zs.map (Value.int k) := by
        have hf := congrArg List.flatten hz
        have e1 : ∀ l : List Value, (l.map fun c => [c]).flatten = l := fun l => by induction l with | nil => rfl | cons a r ih => simp [ih]
        have e2 : ∀ l : List Int, (l.map fun z => [Value.int k z]).flatten = l.map (Value.int k) := fun l => by induction l with | nil => rfl | cons a r ih => simp [ih]
        rw [e1, e2] at hf
        exact hf
      simp only [Prod.mk.injEq] at e1
      refine ⟨zs, by rw [← hl, hcs]; simp, hcs, by rw [← e1.1]; simp [Function.comp_def], by rw [← e1.2]; simp [List.flatMap_eq_nil_iff], hw⟩
    · cases h

/-- An array of integers that came in. -/
theorem open_array {t e : TypeId} {n : Nat} {k : IntKind} {r : Reach} {b0 : Nat} {v : Value} {d : DataW H} {p : List MemPlace} (hu : P.underlying t = some (.array n e)) (he : P.underlying e = some (.int k)) (hc : P.cellsOf e = 1) (hn : P.cellsOf t = n)
    (hval : Value.okWide P w r b0 t v) (h : DataW.Trod enc P w base sp held t v d p) : ∃ zs : List Int, zs.length = n ∧ v = intsVal k zs ∧ d = .agg (zs.map fun z => .lit (.int k z)) ∧ p = [] ∧ ∀ z ∈ zs, (Lit.int k z).wf = true := by
  simp only [Value.okWide, hu] at hval
  obtain ⟨cs, rfl, _, _⟩ := hval
  obtain ⟨fuel, hf⟩ := h
  obtain ⟨zs, h1, h2, h3, h4, h5⟩ := cells_of_ints hu he hc hn hf
  refine ⟨zs, h1, ?_, h3, h4, h5⟩
  unfold intsVal
  congr 1
  rw [← h2]
  simp [Value.cells]

/-- A slice's cells are these bytes. -/
def Bytes (w : World) (pp : Option Addr) (zs : List Nat) : Prop := ∀ (i z : Nat), zs[i]? = some z → z < 256 ∧ ∃ b off, pp = some ⟨b, off, none⟩ ∧ w.cell? ⟨b, off + i, none⟩ = some (.int .u8 (z : Int))

theorem Bytes.grown {w w' : World} {pp : Option Addr} {zs : List Nat} (h : Bytes w pp zs) (hb : Below w.heap.size w w') : Bytes w' pp zs := fun i z hz => by
  obtain ⟨h1, b, off, h2, h3⟩ := h i z hz
  exact ⟨h1, b, off, h2, (hb.cell (p := ⟨b, off + i, none⟩) (World.block_lt_of_cell? w _ h3)).trans h3⟩

theorem wf_u8 {z : Int} (h : (Lit.int .u8 z).wf = true) : 0 ≤ z ∧ z < 256 := by
  simp [Lit.wf, IntKind.min, IntKind.max, IntKind.signed, IntKind.bits] at h
  omega

theorem wf_u32 {z : Int} (h : (Lit.int .u32 z).wf = true) : 0 ≤ z ∧ z < 4294967296 := by
  simp [Lit.wf, IntKind.min, IntKind.max, IntKind.signed, IntKind.bits] at h
  omega
theorem wf_i64 {z : Int} (h : (Lit.int .i64 z).wf = true) : -9223372036854775808 ≤ z ∧ z ≤ 9223372036854775807 := by
  simp [Lit.wf, IntKind.min, IntKind.max, IntKind.signed, IntKind.bits] at h
  omega

/-- A slice of bytes that came in. -/
theorem open_bytes {t e : TypeId} {r : Reach} {b0 : Nat} {v : Value} {d : DataW H} {p : List MemPlace} (ht : P.underlying t = some (.slice e)) (he : P.underlying e = some (.int .u8)) (hc : P.cellsOf e = 1)
    (hval : Value.okWide P w r b0 t v) (h : DataW.Trod enc P w base (fun _ => true) held t v d p) : ∃ (zs : List Nat) (pp : Option Addr) (cap : Nat), v = .slice pp zs.length cap ∧ zs.length ≤ cap ∧ cap ≤ maxLen ∧ Bytes w pp zs := by
  obtain ⟨a0, len, cap, rfl⟩ := okWide_slice ht hval
  obtain ⟨fuel, hf⟩ := h
  rcases open_ints ht he hc hf with ⟨hcs, _⟩ | ⟨a, len', cap', zs, hcs, _, hl, hm, hz, _, hcell, hwz⟩
  · simp [Value.cells] at hcs
    obtain ⟨rfl, rfl, rfl⟩ := hcs
    exact ⟨[], none, 0, rfl, by simp, by unfold maxLen; omega, fun i z hz => by simp at hz⟩
  · simp [Value.cells] at hcs
    obtain ⟨rfl, rfl, rfl⟩ := hcs
    simp only [if_true] at hz
    by_cases hl0 : len = 0
    · subst hl0
      exact ⟨[], some a, cap, rfl, by simp, hm, fun i z hz => by simp at hz⟩
    · obtain ⟨b, off, spot⟩ := a
      have hspot : spot = none := by simpa [Addr.add] using World.cell?_spot (hcell 0 (by omega))
      subst hspot
      have hlen : ((zs.take len).map Int.toNat).length = len := by simp; omega
      refine ⟨(zs.take len).map Int.toNat, some ⟨b, off, none⟩, cap, by rw [hlen], by rw [hlen]; exact hl, hm, fun i z hz2 => ?_⟩
      have hi : i < len := by rw [← hlen]; exact (List.getElem?_eq_some_iff.1 hz2).1
      have hzi : zs[i]? = some (zs.getD i 0) := by simp [List.getD, show i < zs.length by omega]
      have hw := wf_u8 (hwz (zs.getD i 0) (List.mem_of_getElem? hzi))
      have hzz : z = (zs.getD i 0).toNat := by
        rw [List.getElem?_map, List.getElem?_take, if_pos hi, hzi] at hz2
        exact (Option.some.inj hz2).symm
      have hc2 := hcell i (by omega)
      rw [add_plain] at hc2
      refine ⟨by omega, b, off, rfl, ?_⟩
      rw [hc2, hzz, Int.toNat_of_nonneg hw.1]
end
end Go.Proofs.YtgbhfhnbmgkaoaaGreatDoor
namespace Go.Proofs.YtgbhfhnbmgkaoaaGreatDoor
open Go.ChangeShapes Go.WideShapes Go.RowKit Go.ChangeMaps

theorem small_text {n : Nat} (h : n ≤ maxLen) : n ≤ 9223372036854775807 := by unfold maxLen at h; omega
noncomputable def plainWorld (os : Os) : World := World.holding Tryz.prog os ⟨#[], #[], []⟩
end Go.Proofs.YtgbhfhnbmgkaoaaGreatDoor
namespace Go.Proofs.YtgbhfhnbmgkaoaaGreatDoor
open Go.RowKit Go.ChangeShapes Go.WideShapes

section
variable {H : Type} {enc : TypeId × Value → H} {w : World} {base : Nat} {held : Bool}
/-- A slice of ints among the cells of what came in. -/
theorem cell_ints {t e : TypeId} {fuel : Nat} {cs : List Value} {y : DataW H × List MemPlace} (ht : Tryz.prog.underlying t = some (.slice e)) (he : Tryz.prog.underlying e = some (.int .i64)) (hc : Tryz.prog.cellsOf e = 1) (hf : DataW.trod enc Tryz.prog w base (fun _ => true) held fuel t cs = some y) :
    ∃ (pp : Option Addr) (zs : List Int) (cap : Nat), cs = [.slice pp zs.length cap] ∧ zs.length ≤ maxLen ∧ Ints w pp zs := by
  rcases open_ints ht he hc hf with ⟨rfl, _⟩ | ⟨a, len, cap, zs, rfl, _, hl, hm, hz, _, hcell, hwz⟩
  · exact ⟨none, [], 0, rfl, by simp, fun i z hz => by simp at hz⟩
  · simp only [if_true] at hz
    have hlen : (zs.take len).length = len := by simp; omega
    by_cases hl0 : len = 0
    · subst hl0
      exact ⟨some a, [], cap, rfl, by simp, fun i z hz => by simp at hz⟩
    · obtain ⟨b, off, spot⟩ := a
      have hspot : spot = none := by simpa [Addr.add] using World.cell?_spot (hcell 0 (by omega))
      subst hspot
      refine ⟨some ⟨b, off, none⟩, zs.take len, cap, by rw [hlen], by rw [hlen]; exact Nat.le_trans hl hm, fun i z hz2 => ?_⟩
      have hi : i < len := by rw [← hlen]; exact (List.getElem?_eq_some_iff.1 hz2).1
      have hzi : zs[i]? = some (zs.getD i 0) := by simp [List.getD, show i < zs.length by omega]
      rw [List.getElem?_take, if_pos hi, hzi] at hz2
      obtain rfl := Option.some.inj hz2
      have hw := wf_i64 (hwz (zs.getD i 0) (List.mem_of_getElem? hzi))
      have hc2 := hcell i (by omega)
      rw [add_plain] at hc2
      exact ⟨hw, b, off, rfl, hc2⟩
set_option maxRecDepth 100000 in
theorem list_ten {α : Type} {cs : Array α} (h : cs.size = 10) : ∃ c0 c1 c2 c3 c4 c5 c6 c7 c8 c9, cs = #[c0, c1, c2, c3, c4, c5, c6, c7, c8, c9] := by
  obtain ⟨l⟩ := cs
  match l, h with
  | [c0, c1, c2, c3, c4, c5, c6, c7, c8, c9], _ => exact ⟨c0, c1, c2, c3, c4, c5, c6, c7, c8, c9, rfl⟩
theorem some_at {α : Type} {xs : List α} {i n : Nat} (h : xs.length = n) (hi : i < n) : ∃ y, xs[i]? = some y := ⟨_, List.getElem?_eq_getElem (by omega)⟩
theorem field_at {fs : Array Field} {xs : List (DataW H × List MemPlace)} {cs : List Value} {n : Nat} (hfl : ∀ (i : Nat) (f : Field), fs[i]? = some f → DataW.trod enc Tryz.prog w base (fun _ => true) held n f.type ((cs.drop f.offset).take (Tryz.prog.cellsOf f.type)) = xs[i]?)
    (i : Nat) (T : TypeId) (o k m : Nat) (hi : (fs[i]?).map (fun f => (f.type, f.offset)) = some (T, o)) (hk : Tryz.prog.cellsOf T = k) (hm : xs.length = m) (him : i < m) : ∃ y, DataW.trod enc Tryz.prog w base (fun _ => true) held n T ((cs.drop o).take k) = some y := by
  obtain ⟨f, hf, he⟩ := Option.map_eq_some_iff.1 hi
  obtain ⟨h1, h2⟩ := Prod.mk.inj he
  have := hfl i f hf
  rw [h1, h2, hk] at this
  rw [this]
  exact some_at hm him
end
end Go.Proofs.YtgbhfhnbmgkaoaaGreatDoor
