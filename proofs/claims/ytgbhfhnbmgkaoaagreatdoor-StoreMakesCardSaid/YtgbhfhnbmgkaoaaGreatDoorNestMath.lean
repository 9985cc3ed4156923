/-
  Plain mathematics: a store's rows, session by session; what stands in rising order and has the same members is one. No program is run here.
-/
import Derived.Test.YtgbhfhnbmgkaoaaGreatDoorPart21
import Derived.Test.YtgbhfhnbmgkaoaaGreatDoorPart20
import Derived.Test.YtgbhfhnbmgkaoaaGreatDoorFlatSort
namespace Go.Proofs.YtgbhfhnbmgkaoaaGreatDoor
open Go.RowKit Go.Maps TextNat RegMath

def inS (s : ByteArray) (x : RowV) : Bool := decide (x.session = s)
/-- A session's keys, with their cells. -/
def entS (xs : List RowV) (s : ByteArray) : List (ByteArray × RegV) := (xs.filter (inS s)).map fun x => (x.key, x.cell)
theorem mem_entS {xs : List RowV} {s k : ByteArray} {c : RegV} : (k, c) ∈ entS xs s ↔ (⟨s, k, c⟩ : RowV) ∈ xs := by
  unfold entS
  rw [List.mem_map]
  constructor
  · rintro ⟨x, hx, e⟩
    obtain ⟨h1, h2⟩ := List.mem_filter.1 hx
    obtain ⟨e1, e2⟩ := Prod.mk.inj e
    have h3 : x.session = s := of_decide_eq_true h2
    obtain ⟨a, b, d⟩ := x
    simp only at e1 e2 h3
    subst e1; subst e2; subst h3
    exact h1
  · intro h
    exact ⟨_, List.mem_filter.2 ⟨h, decide_eq_true rfl⟩, rfl⟩
theorem finds_key (xs : List RowV) (s k : ByteArray) : Finds (entS xs s) k (lookV xs s k) := by
  unfold lookV
  cases h : idxV xs s k with
  | some i =>
    obtain ⟨x, hx, rfl, rfl⟩ := idx_lt h
    rw [show ((some i).bind fun i => xs[i]?.map RowV.cell) = some x.cell by simp [hx]]
    exact mem_entS.2 (List.mem_of_getElem? hx)
  | none =>
    intro c hc
    have hm := mem_entS.1 hc
    unfold idxV at h
    rw [List.findIdx?_eq_none_iff] at h
    have := h _ hm
    rw [decide_eq_false_iff_not] at this
    exact this ⟨rfl, rfl⟩
theorem rise_v {xs : List RowV} (h : StoreMath.Rising (xs.map RowV.r)) : xs.Pairwise fun a b => StoreMath.klt a.r.k b.r.k = true := List.pairwise_map.1 h
theorem uniq_v {l : List RowV} (hl : l.Pairwise fun a b => StoreMath.klt a.r.k b.r.k = true) : ∀ x ∈ l, ∀ y ∈ l, x.r.k = y.r.k → x = y := by
  induction l with
  | nil => intro x hx; simp at hx
  | cons z r ih =>
    intro x hx y hy e
    obtain ⟨k1, k2⟩ := List.pairwise_cons.1 hl
    have ne : ∀ u ∈ r, z.r.k ≠ u.r.k := fun u hu => StoreMath.klt_ne (k1 u hu)
    rcases List.mem_cons.1 hx with e1 | h1
    · rcases List.mem_cons.1 hy with e2 | h2
      · rw [e1, e2]
      · exact absurd (by rw [← e1]; exact e) (ne y h2)
    · rcases List.mem_cons.1 hy with e2 | h2
      · exact absurd (by rw [← e2]; exact e.symm) (ne x h1)
      · exact ih k2 x h1 y h2 e
/-- Two rising lists of the same rows are one. -/
theorem rows_ext {A B : List RowV} (hA : A.Pairwise fun a b => StoreMath.klt a.r.k b.r.k = true) (hB : B.Pairwise fun a b => StoreMath.klt a.r.k b.r.k = true) (hm : ∀ x, x ∈ A ↔ x ∈ B) : A = B := by
  have hk : (A.map fun x => x.r.k) = B.map fun x => x.r.k := by
    refine StoreMath.rise_one StoreMath.strict_key (List.pairwise_map.2 hA) (List.pairwise_map.2 hB) fun k => ?_
    rw [List.mem_map, List.mem_map]
    exact ⟨fun ⟨x, hx, e⟩ => ⟨x, (hm x).1 hx, e⟩, fun ⟨x, hx, e⟩ => ⟨x, (hm x).2 hx, e⟩⟩
  exact map_one (fun x hx y hy e => uniq_v hB x ((hm x).1 hx) y hy e) hk
theorem lookV_mem {xs : List RowV} (h : StoreMath.Rising (xs.map RowV.r)) {x : RowV} (hx : x ∈ xs) : lookV xs x.session x.key = some x.cell := by
  have hf := finds_key xs x.session x.key
  cases hl : lookV xs x.session x.key with
  | none =>
    rw [hl] at hf
    exact absurd (mem_entS.2 hx) (hf x.cell)
  | some c =>
    rw [hl] at hf
    have h2 := mem_entS.1 hf
    have e := uniq_v (rise_v h) _ h2 _ hx rfl
    rw [← e]
/-- Session by session: all of them. -/
theorem by_sessions {xs : List RowV} (hr : StoreMath.Rising (xs.map RowV.r)) (q : RowV → Bool) {C : List ByteArray} (hC : (C.map nats).Pairwise fun x y => lex x y = true) (hm : ∀ x ∈ xs, q x = true → x.session ∈ C) :
    C.flatMap (fun s => xs.filter fun x => inS s x && q x) = xs.filter q := by
  have h1 := rise_v hr
  refine rows_ext (List.pairwise_flatMap.2 ⟨fun s _ => h1.filter _, ?_⟩) (h1.filter _) fun x => ?_
  · refine (List.pairwise_map.1 hC).imp ?_
    intro s t hst x hx y hy
    have e1 : x.session = s := by
      have := (List.mem_filter.1 hx).2
      rw [Bool.and_eq_true] at this
      exact of_decide_eq_true this.1
    have e2 : y.session = t := by
      have := (List.mem_filter.1 hy).2
      rw [Bool.and_eq_true] at this
      exact of_decide_eq_true this.1
    rw [klt_v, e1, e2, hst]
    rfl
  · rw [List.mem_flatMap, List.mem_filter]
    constructor
    · rintro ⟨s, hs, hx⟩
      obtain ⟨h2, h3⟩ := List.mem_filter.1 hx
      rw [Bool.and_eq_true] at h3
      exact ⟨h2, h3.2⟩
    · rintro ⟨h2, h3⟩
      exact ⟨x.session, hm x h2 h3, List.mem_filter.2 ⟨h2, by rw [Bool.and_eq_true]; exact ⟨decide_eq_true rfl, h3⟩⟩⟩
/-- A session's rows, made of its keys. -/
theorem rows_made {xs : List RowV} (hr : StoreMath.Rising (xs.map RowV.r)) (s : ByteArray) (q : RegV → Bool) :
    ((xs.filter fun x => inS s x && q x.cell).map RowV.key).map (fun k => (⟨s, k, (lookV xs s k).getD zeroR⟩ : RowV)) = xs.filter fun x => inS s x && q x.cell := by
  rw [List.map_map]
  conv => rhs; rw [← List.map_id (xs.filter fun x => inS s x && q x.cell)]
  refine List.map_congr_left fun x hx => ?_
  obtain ⟨h2, h3⟩ := List.mem_filter.1 hx
  rw [Bool.and_eq_true] at h3
  have e : x.session = s := of_decide_eq_true h3.1
  show (⟨s, x.key, (lookV xs s x.key).getD zeroR⟩ : RowV) = x
  rw [← e, lookV_mem hr h2]
  rfl
/-- .. whose keys rise. -/
theorem keys_made {xs : List RowV} (hr : StoreMath.Rising (xs.map RowV.r)) (s : ByteArray) (q : RegV → Bool) :
    (((xs.filter fun x => inS s x && q x.cell).map RowV.key).map nats).Pairwise fun x y => lex x y = true := by
  rw [List.map_map, List.pairwise_map]
  have h1 := (rise_v hr).filter fun x => inS s x && q x.cell
  have hs : ∀ x ∈ xs.filter (fun x => inS s x && q x.cell), x.session = s := fun x hx => by
    have := (List.mem_filter.1 hx).2
    rw [Bool.and_eq_true] at this
    exact of_decide_eq_true this.1
  refine List.Pairwise.imp_of_mem ?_ h1
  intro a b ha hb hab
  rw [klt_v, hs a ha, hs b hb, lex_irr, decide_eq_true rfl, Bool.false_or, Bool.true_and] at hab
  exact hab
theorem keys_made_mem {xs : List RowV} {s : ByteArray} {q : RegV → Bool} {k : ByteArray} : k ∈ ((xs.filter fun x => inS s x && q x.cell).map RowV.key) ↔ ∃ c, (k, c) ∈ entS xs s ∧ q c = true := by
  rw [List.mem_map]
  constructor
  · rintro ⟨x, hx, rfl⟩
    obtain ⟨h2, h3⟩ := List.mem_filter.1 hx
    rw [Bool.and_eq_true] at h3
    have e : x.session = s := of_decide_eq_true h3.1
    subst e
    exact ⟨x.cell, mem_entS.2 h2, h3.2⟩
  · rintro ⟨c, h1, h2⟩
    exact ⟨_, List.mem_filter.2 ⟨mem_entS.1 h1, by rw [Bool.and_eq_true]; exact ⟨decide_eq_true rfl, h2⟩⟩, rfl⟩
theorem inj_data {a b : ByteArray} (h : a.data.toList = b.data.toList) : a = b := by rw [← txt_nats a, ← txt_nats b]; unfold nats; rw [h]
theorem sortT_rises {A : List ByteArray} (hA : A.Nodup) : ((sortT A).map nats).Pairwise fun x y => lex x y = true := by
  have h1 : (A.map fun s => s.data.toList).Nodup := List.Pairwise.map _ (fun a b h e => h (inj_data e)) hA
  have h2 := sorted_rises h1
  have e : (sortT A).map nats = ((A.map fun s => s.data.toList).mergeSort fun x y => decide (x ≤ y)).map fun x => x.map UInt8.toNat := by
    unfold sortT
    rw [List.map_map]
    exact List.map_congr_left fun l _ => rfl
  rw [e]
  exact h2
theorem sortT_mem {A : List ByteArray} {x : ByteArray} : x ∈ sortT A ↔ x ∈ A := by
  unfold sortT
  rw [List.mem_map]
  constructor
  · rintro ⟨l, hl, rfl⟩
    have := (List.mergeSort_perm _ _).mem_iff.1 hl
    obtain ⟨a, ha, rfl⟩ := List.mem_map.1 this
    exact ha
  · intro h
    exact ⟨x.data.toList, (List.mergeSort_perm _ _).mem_iff.2 (List.mem_map_of_mem h), rfl⟩
/-- What a put makes of the sessions' keys. -/
theorem entS_perm {xs xs' : List RowV} (h : xs.Perm xs') (s : ByteArray) : (entS xs s).Perm (entS xs' s) := (h.filter _).map _
theorem entS_put (xs : List RowV) (s k : ByteArray) (c : RegV) : entS ((⟨s, k, c⟩ : RowV) :: xs.filter fun r => !atV s k r) s = (k, c) :: (entS xs s).filter fun p => decide (p.1 ≠ k) := by
  unfold entS
  rw [List.filter_cons_of_pos (show inS s ⟨s, k, c⟩ = true from decide_eq_true rfl), List.map_cons, List.filter_filter, List.filter_map, List.filter_filter]
  refine congrArg _ (congrArg _ (List.filter_congr fun x _ => ?_))
  show (inS s x && !atV s k x) = (decide (x.key ≠ k) && inS s x)
  unfold inS atV
  by_cases h1 : x.session = s <;> by_cases h2 : x.key = k <;> simp [h1, h2]
theorem entS_other (xs : List RowV) {s t : ByteArray} (k : ByteArray) (c : RegV) (h : t ≠ s) : entS ((⟨s, k, c⟩ : RowV) :: xs.filter fun r => !atV s k r) t = entS xs t := by
  unfold entS
  rw [List.filter_cons_of_neg (by unfold inS; simpa using fun e => h e.symm), List.filter_filter]
  refine congrArg _ (List.filter_congr fun x _ => ?_)
  show (inS t x && !atV s k x) = inS t x
  unfold inS atV
  by_cases h1 : x.session = t
  · have : ¬ x.session = s := fun e => h (h1.symm.trans e)
    simp [h1, h]
  · simp [h1]
/-- What a sweep keeps. -/
def keptE (f : Int) (p : ByteArray × RegV) : Bool := !p.2.gone || decide (f < p.2.time)
theorem entS_sweep (xs : List RowV) (f : Int) (s : ByteArray) : entS (sweepV xs f) s = (entS xs s).filter (keptE f) := by
  unfold entS sweepV
  rw [List.filter_map, List.filter_filter, List.filter_filter]
  refine congrArg _ (List.filter_congr fun x _ => ?_)
  show (inS s x && keptV f x) = (keptV f x && inS s x)
  rw [Bool.and_comm]
theorem entS_length (xs : List RowV) (s : ByteArray) : (entS xs s).length = (xs.filter fun x => decide (x.session = s)).length := by
  unfold entS
  rw [List.length_map]
  rfl
end Go.Proofs.YtgbhfhnbmgkaoaaGreatDoor
