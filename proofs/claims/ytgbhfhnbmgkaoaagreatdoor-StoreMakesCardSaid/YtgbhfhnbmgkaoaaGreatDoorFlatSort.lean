/-
  A row of texts of one's own, sorted by the library; what was collected of a store, sorted, is what the document says. The condition: at most 1000 texts.
-/
import Derived.Test.YtgbhfhnbmgkaoaaGreatDoorSortTexts
import Derived.Test.YtgbhfhnbmgkaoaaGreatDoorPart22
import Derived.Test.YtgbhfhnbmgkaoaaGreatDoorPart14
import Derived.Sort.OwnSorted
namespace Go.Proofs.YtgbhfhnbmgkaoaaGreatDoor
open Go.RowKit Go.Sort TextNat RegMath

/-- Texts, sorted. -/
def sortT (A : List ByteArray) : List ByteArray := ((A.map fun s => s.data.toList).mergeSort fun x y => decide (x ≤ y)).map fun l => ⟨⟨l⟩⟩
theorem sortT_len (A : List ByteArray) : (sortT A).length = A.length := by unfold sortT; rw [List.length_map, List.length_mergeSort, List.length_map]
theorem sort16 (B : Nat) (v : Value) (A : List ByteArray) (w : World) (h : OwnT16 w B v A) (hl : A.length ≤ 1000) (hB : B ≤ w.heap.size) :
    Calls Tryz.prog 66 #[v] w fun e w' => e = .returned (.tuple #[]) ∧ OwnT16 w' B v (sortT A) ∧ Below B w w' := by
  rcases h.2 with ⟨rfl, h0⟩ | ⟨g, cap, cur, rfl, h1, h2, h3, h4, h5, h6⟩
  · have hA : A = [] := List.length_eq_zero_iff.1 h0
    subst hA
    refine (Tryz.So_slices_Sort_string_none none 0 w).mono ?_
    rintro e w' ⟨rfl, rfl⟩
    exact ⟨rfl, by rw [show sortT [] = [] by simp [sortT]]; exact h, Below.refl _ _⟩
  · have hm : A.map Value.string = (A.map fun s => s.data.toList).map encStr := by
      rw [List.map_map]
      exact List.map_congr_left fun s _ => rfl
    have hlen : (A.map fun s => s.data.toList).length = A.length := List.length_map _
    rw [Nat.mul_one] at h6
    have hH := holds_of_block (ss := A.map fun s => s.data.toList) h2 (by rw [hlen, h6, hm])
    have hc := Tryz.So_slices_Sort_string g 0 cap (A.map fun s => s.data.toList) w hH (Array.getElem?_eq_some_iff.1 h2).1 (by rw [hlen]; omega)
    rw [hlen] at hc
    refine hc.mono ?_
    rintro e w' ⟨rfl, n, os, rfl⟩
    have hts : ((A.map fun s => s.data.toList).mergeSort fun x y => decide (x ≤ y)).length = (A.map fun s => s.data.toList).length := List.length_mergeSort _
    have ho := ownsRow_sorted (n := n) (os := os) (e := 9) (ss := A.map fun s => s.data.toList) (ts := (A.map fun s => s.data.toList).mergeSort fun x y => decide (x ≤ y)) hts h1 h2 (by rw [hlen]; exact h3) h4 (by rw [h5])
    refine ⟨rfl, ?_, (Below.refl B w).grown (grownBy_sorted _) hB (fun k hk => by have := Option.some.inj hk; omega)⟩
    unfold OwnT16
    rw [sortT_len]
    rw [hlen] at ho
    have hm2 : (sortT A).map Value.string = ((A.map fun s => s.data.toList).mergeSort fun x y => decide (x ≤ y)).map encStr := by
      unfold sortT
      rw [List.map_map]
      exact List.map_congr_left fun s _ => rfl
    rw [hm2]
    exact ho
/-- What was collected, sorted, is the one list of its members that rises. -/
theorem sortT_is {A C : List ByteArray} (hA : A.Nodup) (hC : (C.map nats).Pairwise fun x y => lex x y = true) (hm : ∀ x, x ∈ A ↔ x ∈ C) : sortT A = C := by
  have inj : ∀ a b : ByteArray, a.data.toList = b.data.toList → a = b := fun a b h => by rw [← txt_nats a, ← txt_nats b]; unfold nats; rw [h]
  have h1 : (A.map fun s => s.data.toList).Nodup := List.Pairwise.map _ (fun a b h e => h (inj a b e)) hA
  have hnm : ∀ x, x ∈ (A.map fun s => s.data.toList).map (fun x => x.map UInt8.toNat) ↔ x ∈ C.map nats := fun x => by
    rw [List.map_map, List.mem_map, List.mem_map]
    exact ⟨fun ⟨a, ha, e⟩ => ⟨a, (hm a).1 ha, e⟩, fun ⟨a, ha, e⟩ => ⟨a, (hm a).2 ha, e⟩⟩
  have h2 := sorted_is h1 hC hnm
  have h3 : (sortT A).map nats = C.map nats := by
    rw [← h2]
    unfold sortT
    rw [List.map_map]
    exact List.map_congr_left fun l _ => rfl
  have h4 := congrArg (List.map txt) h3
  rw [List.map_map, List.map_map] at h4
  have e : ∀ l : List ByteArray, l.map (txt ∘ nats) = l := fun l => by
    conv => rhs; rw [← List.map_id l]
    exact List.map_congr_left fun s _ => txt_nats s
  rw [e, e] at h4
  exact h4
theorem rising_nodup {xs : List RowV} (h : StoreMath.Rising (xs.map RowV.r)) : xs.Nodup := by
  have : xs.Pairwise fun a b => StoreMath.klt a.r.k b.r.k = true := List.pairwise_map.1 h
  exact this.imp fun {a b} hab e => by
    subst e
    rw [StoreMath.strict_key.irr] at hab
    cases hab
theorem keys_collected {xs cs : List RowV} (s : ByteArray) (h : StoreMath.Rising (xs.map RowV.r)) (hp : xs.Perm cs) : sortT ((cs.filter (keyV s)).map RowV.key) = keysV xs s := by
  have hr := StoreMath.keys_rise h (nats s)
  rw [keys_r] at hr
  refine sortT_is ?_ hr fun x => ?_
  · have hp2 : ((xs.filter (keyV s)).map RowV.key).Perm ((cs.filter (keyV s)).map RowV.key) := (hp.filter _).map _
    refine hp2.nodup_iff.1 ?_
    have : ((keysV xs s).map nats).Nodup := hr.imp fun {a b} hab e => by subst e; rw [lex_irr] at hab; cases hab
    exact List.Pairwise.of_map nats (fun a b h e => h (by rw [e])) this
  · unfold keysV
    rw [List.mem_map, List.mem_map]
    exact ⟨fun ⟨a, ha, e⟩ => ⟨a, (hp.filter _).mem_iff.2 ha, e⟩, fun ⟨a, ha, e⟩ => ⟨a, (hp.filter _).mem_iff.1 ha, e⟩⟩
theorem lives_collected {xs cs : List RowV} (h : StoreMath.Rising (xs.map RowV.r)) (hp : xs.Perm cs) : sortT ((cs.filter liveV).map RowV.session) = livesV xs := by
  have hr := StoreMath.lives_rise h
  rw [lives_r] at hr
  refine sortT_is ?_ hr fun x => ?_
  · have hp2 : ((xs.filter liveV).map RowV.session).Perm ((cs.filter liveV).map RowV.session) := (hp.filter _).map _
    refine hp2.nodup_iff.1 ?_
    have : ((livesV xs).map nats).Nodup := hr.imp fun {a b} hab e => by subst e; rw [lex_irr] at hab; cases hab
    exact List.Pairwise.of_map nats (fun a b h e => h (by rw [e])) this
  · unfold livesV
    rw [List.mem_map, List.mem_map]
    exact ⟨fun ⟨a, ha, e⟩ => ⟨a, (hp.filter _).mem_iff.2 ha, e⟩, fun ⟨a, ha, e⟩ => ⟨a, (hp.filter _).mem_iff.1 ha, e⟩⟩
end Go.Proofs.YtgbhfhnbmgkaoaaGreatDoor
