/-
  Texts of one claim, merged.
  TextSort: Texts that were sorted, in the words of the shelf's sort: they rise; whatever they came in. No program is run here.
  RegOf: RegOf's contract: it answers true of any write, out of the program's contracts and the example. The conditions: the write's vector lies in memory.
-/
import Derived.Test.YtgbhfhnbmgkaoaaGreatDoorPart21
import Derived.Test.YtgbhfhnbmgkaoaaGreatDoorPart07
import Derived.Test.YtgbhfhnbmgkaoaaGreatDoorPart05
import Derived.Test.YtgbhfhnbmgkaoaaGreatDoorPart11
import Derived.Deep.RegionHeld3
namespace Go.Proofs.YtgbhfhnbmgkaoaaGreatDoor
open TextNat RegMath StoreMath

theorem bytes_lt : ∀ x y : List UInt8, x < y ↔ lex (x.map UInt8.toNat) (y.map UInt8.toNat) = true
  | x, [] => by
    refine ⟨fun h => absurd h (List.not_lt_nil x), fun h => ?_⟩
    cases x <;> cases h
  | [], y :: b => ⟨fun _ => rfl, fun _ => List.nil_lt_cons y b⟩
  | x :: a, y :: b => by
    rw [List.cons_lt_cons_iff, bytes_lt a b]
    show _ ↔ (decide (x.toNat < y.toNat) || (x.toNat == y.toNat && lex (a.map UInt8.toNat) (b.map UInt8.toNat))) = true
    rw [Bool.or_eq_true, Bool.and_eq_true, decide_eq_true_iff, beq_iff_eq, UInt8.lt_iff_toNat_lt]
    exact or_congr Iff.rfl (and_congr ⟨fun h => by rw [h], fun h => UInt8.toNat.inj h⟩ Iff.rfl)
/-- What was sorted, all of it unlike, rises. -/
theorem sorted_rises {ss : List (List UInt8)} (h : ss.Nodup) : ((ss.mergeSort fun x y => decide (x ≤ y)).map fun x => x.map UInt8.toNat).Pairwise fun a b => lex a b = true := by
  rw [List.pairwise_map]
  have h1 := List.pairwise_mergeSort (le := fun x y : List UInt8 => decide (x ≤ y)) (fun a b c hab hbc => by
    rw [decide_eq_true_iff] at hab hbc ⊢
    exact List.le_trans hab hbc) (fun a b => by
    rw [Bool.or_eq_true, decide_eq_true_iff, decide_eq_true_iff]
    exact List.le_total a b) ss
  have h2 : (ss.mergeSort fun x y => decide (x ≤ y)).Nodup := (List.mergeSort_perm ss _).nodup_iff.2 h
  refine (h1.and h2).imp ?_
  intro a b ⟨hab, hne⟩
  rw [decide_eq_true_iff] at hab
  rcases strict_lex.tri (a.map UInt8.toNat) (b.map UInt8.toNat) with e | e | e
  · refine absurd ?_ hne
    exact (List.map_inj_right fun _ _ h => UInt8.toNat.inj h).1 e
  · exact e
  · exact absurd ((bytes_lt b a).2 e) hab
/-- What was collected in whatever order, once it is sorted, is the one rising list of its members. -/
theorem sorted_is {ss : List (List UInt8)} (h : ss.Nodup) {b : List (List Nat)} (hb : b.Pairwise fun x y => lex x y = true) (hm : ∀ x, x ∈ ss.map (fun x => x.map UInt8.toNat) ↔ x ∈ b) : (ss.mergeSort fun x y => decide (x ≤ y)).map (fun x => x.map UInt8.toNat) = b := by
  refine rise_one strict_lex (sorted_rises h) hb fun x => ?_
  rw [← hm x, List.mem_map, List.mem_map]
  exact ⟨fun ⟨y, h1, h2⟩ => ⟨y, (List.mergeSort_perm ss _).mem_iff.1 h1, h2⟩, fun ⟨y, h1, h2⟩ => ⟨y, (List.mergeSort_perm ss _).mem_iff.2 h1, h2⟩⟩
end Go.Proofs.YtgbhfhnbmgkaoaaGreatDoor
namespace Go.Proofs.YtgbhfhnbmgkaoaaGreatDoor
open Go.RowKit TextNat RegMath

/-- A write's cell. -/
def ofV (x : WriteV) : RegV := ⟨x.time, x.sreg, x.value, x.gone, x.life⟩
def OfOk : Prop := ∀ (x : WriteV) (w : World), Ints w x.dp x.dl → x.value.size ≤ 281474976710656 → Calls Tryz.prog 40 #[x.val] w fun e w' => e = .returned (ofV x).val ∧ Below w.heap.size w w'
theorem keepWrite {W w w' : World} {A : Nat} {u0 u1 u2 u3 u4 u5 u6 u7 u8 u9 : Value} (h : Below W.heap.size W w ∧ w.cell? ⟨A, 0, none⟩ = some u0 ∧ w.cell? ⟨A, 1, none⟩ = some u1 ∧ w.cell? ⟨A, 2, none⟩ = some u2 ∧ w.cell? ⟨A, 3, none⟩ = some u3 ∧ w.cell? ⟨A, 4, none⟩ = some u4 ∧ w.cell? ⟨A, 5, none⟩ = some u5 ∧ w.cell? ⟨A, 6, none⟩ = some u6 ∧ w.cell? ⟨A, 7, none⟩ = some u7 ∧ w.cell? ⟨A, 8, none⟩ = some u8 ∧ w.cell? ⟨A, 9, none⟩ = some u9) (hb : Below w.heap.size w w') :
    Below W.heap.size W w' ∧ w'.cell? ⟨A, 0, none⟩ = some u0 ∧ w'.cell? ⟨A, 1, none⟩ = some u1 ∧ w'.cell? ⟨A, 2, none⟩ = some u2 ∧ w'.cell? ⟨A, 3, none⟩ = some u3 ∧ w'.cell? ⟨A, 4, none⟩ = some u4 ∧ w'.cell? ⟨A, 5, none⟩ = some u5 ∧ w'.cell? ⟨A, 6, none⟩ = some u6 ∧ w'.cell? ⟨A, 7, none⟩ = some u7 ∧ w'.cell? ⟨A, 8, none⟩ = some u8 ∧ w'.cell? ⟨A, 9, none⟩ = some u9 := by
  obtain ⟨hh, h0, h1, h2, h3, h4, h5, h6, h7, h8, h9⟩ := h
  exact ⟨hh.trans (hb.mono hh.size), (hb.cell (p := ⟨A, 0, none⟩) (World.block_lt_of_cell? w _ h0)).trans h0, (hb.cell (p := ⟨A, 1, none⟩) (World.block_lt_of_cell? w _ h1)).trans h1, (hb.cell (p := ⟨A, 2, none⟩) (World.block_lt_of_cell? w _ h2)).trans h2, (hb.cell (p := ⟨A, 3, none⟩) (World.block_lt_of_cell? w _ h3)).trans h3, (hb.cell (p := ⟨A, 4, none⟩) (World.block_lt_of_cell? w _ h4)).trans h4, (hb.cell (p := ⟨A, 5, none⟩) (World.block_lt_of_cell? w _ h5)).trans h5, (hb.cell (p := ⟨A, 6, none⟩) (World.block_lt_of_cell? w _ h6)).trans h6, (hb.cell (p := ⟨A, 7, none⟩) (World.block_lt_of_cell? w _ h7)).trans h7, (hb.cell (p := ⟨A, 8, none⟩) (World.block_lt_of_cell? w _ h8)).trans h8, (hb.cell (p := ⟨A, 9, none⟩) (World.block_lt_of_cell? w _ h9)).trans h9⟩
end Go.Proofs.YtgbhfhnbmgkaoaaGreatDoor
