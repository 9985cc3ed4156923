/-
  Sweep of a store whose cells stand in a map of maps. The conditions: texts of at most 1000 bytes, rows that rise.
-/
import Derived.Test.YtgbhfhnbmgkaoaaGreatDoorNest11
import Derived.Test.YtgbhfhnbmgkaoaaGreatDoorNest6
import Derived.Test.YtgbhfhnbmgkaoaaGreatDoorPart09
namespace Go.Proofs.YtgbhfhnbmgkaoaaGreatDoor
open Go.RowKit Go.Maps TextNat RegMath

section
variable {α : Type} (E : Elem α) (w : World) {ops : Array Oper} {rest : List Oper} {o : Oper} {a : Act} {Q : Exit → Act → World → Prop}
/-- The step of a range over a map of texts, told what is left. -/
theorem wpList_next_left (hg : o.guard = none) (it : Operand) (hop : o.op = Op.next it false) (b r n : Nat) (D : DataW Unit) (l : List (ByteArray × α)) (left : Lit → Bool) (cnt : Nat)
    (hit : a.eval it = .pointer (some ⟨r, 0, none⟩)) (h : w.ranges Tryz.prog 9 E.read b r n D left cnt) (hH : Holds16 tk E D l)
    (hDone : (∀ k, left k = false) → wpList Tryz.prog ops Q rest (a.put o.dst (.tuple #[.bool false])) w)
    (hMore : ∀ (s : ByteArray) (c : α) (w' : World) (cnt' : Nat), (s, c) ∈ l → left (tk.lit s) = true → w'.ranges Tryz.prog 9 E.read b r n D (fun z => left z && !z.sameKey (tk.lit s)) cnt' → cnt' < cnt →
      w.grownBy w' (some r) → w'.heap.size = w.heap.size → (Instr.entry (.pointer (some ⟨r, 0, none⟩))).run Tryz.prog w' = .ok (.tuple #[.string s, E.val c]) w' →
      wpList Tryz.prog ops Q rest (a.put o.dst (.tuple #[.bool true, .string s, E.val c])) w') :
    wpList Tryz.prog ops Q (o :: rest) a w := by
  refine wpList_next_ranges w hg it hop 9 tk.law E.read tk.val E.val (fun key kl hq => by obtain ⟨x, hx, _⟩ := tk.inv key kl hq; exact ⟨x, hx⟩) (fun v y hv => by obtain ⟨c, hc, _⟩ := E.read_inv hv; exact ⟨c, hc⟩) b r n D left cnt hit h (fun _ hl => hDone hl) fun s c kl y w' cnt' hkey hl hv hat hr hlt hg2 hs hen => ?_
  obtain ⟨c', hc', hy⟩ := E.read_inv hv
  obtain rfl := E.val_one _ _ hc'
  obtain ⟨s', hs', hfs, rfl⟩ := tk.inv _ _ hkey
  obtain rfl := tk.val_one _ _ hs'
  have hh : Maps.has D (tk.lit s) = true := has_true_of_atKey hat
  obtain ⟨c2, hc2⟩ := (hH.has hfs).1 hh
  have e1 := (hat .nil).symm.trans (hH.at hc2 .nil)
  rw [hy] at e1
  obtain rfl := E.dat_one _ _ e1
  exact hMore s c w' cnt' hc2 hl hr hlt hg2 hs hen
end
abbrev SesK := ByteArray × Nat
/-- How many cells of a session a sweep lets go; of more than one. -/
def dropS (xs : List RowV) (f : Int) (p : SesK) : Nat := (entS xs p.1).length - (entS (sweepV xs f) p.1).length
def dropN (xs : List RowV) (f : Int) (l : List SesK) : Nat := (l.map (dropS xs f)).sum
theorem sweep_le (xs : List RowV) (f : Int) (s : ByteArray) : (entS (sweepV xs f) s).length ≤ (entS xs s).length := by
  rw [entS_sweep]
  exact List.length_filter_le _ _
theorem dropN_snoc (xs : List RowV) (f : Int) (l : List SesK) (p : SesK) : dropN xs f (l ++ [p]) = dropN xs f l + dropS xs f p := by
  unfold dropN
  rw [List.map_append, List.sum_append]
  simp
theorem dropN_perm {xs : List RowV} {f : Int} {l l' : List SesK} (h : l.Perm l') : dropN xs f l = dropN xs f l' := (h.map _).sum_nat
theorem dropN_sum (xs : List RowV) (f : Int) : ∀ l : List SesK, dropN xs f l + (l.map fun p => (entS (sweepV xs f) p.1).length).sum = (l.map fun p => (entS xs p.1).length).sum
  | [] => rfl
  | p :: l => by
    have ih := dropN_sum xs f l
    have h := sweep_le xs f p.1
    unfold dropN at ih ⊢
    rw [List.map_cons, List.sum_cons, List.map_cons, List.sum_cons, List.map_cons, List.sum_cons]
    unfold dropS at ih ⊢
    omega
theorem count_ses {os : List SesK} {xs : List RowV} (hk : os.Pairwise fun p q => p.1 ≠ q.1) (ha : ∀ x ∈ xs, ∃ p ∈ os, p.1 = x.session) : (os.map fun p => (entS xs p.1).length).sum = xs.length := by
  have h := StoreMath.count_by (fun x : RowV => x.session) (os.map Prod.fst) xs (List.pairwise_map.2 hk) (fun x hx => by
    obtain ⟨p, hp, e⟩ := ha x hx
    exact List.mem_map.2 ⟨p, hp, e⟩)
  rw [List.map_map] at h
  rw [← h]
  congr 1
  exact List.map_congr_left fun p _ => entS_length xs p.1
/-- Is anything left of a session? -/
def aliveS (xs : List RowV) (f : Int) (p : SesK) : Bool := decide (0 < (entS (sweepV xs f) p.1).length)
/-- A sweep on its way. -/
structure SwO (f : Int) (os : List SesK) (xs : List RowV) (w : World) (bm r : Nat) (D : DataW Unit) (left : Lit → Bool) (gh : Nat) (done rest : List SesK) : Prop where
  parts : os.Perm (done ++ rest)
  runs : w.ranges Tryz.prog 9 mapE.read bm r os.length D left gh
  holds : Holds16 tk mapE D ((done.filter (aliveS xs f) ++ rest).map sesE)
  ldone : ∀ p ∈ done, aliveS xs f p = true → left (tk.lit p.1) = false
  lrest : ∀ p ∈ rest, left (tk.lit p.1) = true
  idone : ∀ p ∈ done, MapAt cellE w (some p.2) (entS (sweepV xs f) p.1)
  irest : ∀ p ∈ rest, MapAt cellE w (some p.2) (entS xs p.1)
theorem SwO.same {f : Int} {os : List SesK} {xs : List RowV} {w w' : World} {bm r : Nat} {D : DataW Unit} {left : Lit → Bool} {gh : Nat} {done rest : List SesK} (h : SwO f os xs w bm r D left gh done rest) (e : ∀ k, (k = bm ∨ k = r ∨ ∃ p ∈ os, p.2 = k) → w'.heap[k]? = w.heap[k]?) : SwO f os xs w' bm r D left gh done rest where
  parts := h.parts
  runs := ranges_same h.runs (e bm (.inl rfl)) (e r (.inr (.inl rfl)))
  holds := h.holds
  ldone := h.ldone
  lrest := h.lrest
  idone p hp := (h.idone p hp).same fun k hk => by
    obtain rfl := Option.some.inj hk
    exact e _ (.inr (.inr ⟨p, h.parts.mem_iff.2 (List.mem_append_left _ hp), rfl⟩))
  irest p hp := (h.irest p hp).same fun k hk => by
    obtain rfl := Option.some.inj hk
    exact e _ (.inr (.inr ⟨p, h.parts.mem_iff.2 (List.mem_append_right _ hp), rfl⟩))
theorem SwO.lt {f : Int} {os : List SesK} {xs : List RowV} {w : World} {bm r : Nat} {D : DataW Unit} {left : Lit → Bool} {gh : Nat} {done rest : List SesK} (h : SwO f os xs w bm r D left gh done rest) : ∀ k, (k = bm ∨ k = r ∨ ∃ p ∈ os, p.2 = k) → k < w.heap.size := by
  rintro k (rfl | rfl | ⟨p, hp, rfl⟩)
  · exact ownsMap_lt h.runs.owns
  · exact h.runs.lt
  · rcases List.mem_append.1 (h.parts.mem_iff.1 hp) with h1 | h1
    · exact (h.idone p h1).lt
    · exact (h.irest p h1).lt
theorem SwO.below {f : Int} {os : List SesK} {xs : List RowV} {w w' : World} {bm r : Nat} {D : DataW Unit} {left : Lit → Bool} {gh : Nat} {done rest : List SesK} (h : SwO f os xs w bm r D left gh done rest) (hb : Below w.heap.size w w') : SwO f os xs w' bm r D left gh done rest := h.same fun k hk => hb.block k (h.lt k hk)
theorem ses_apart {os : List SesK} (ha : os.Pairwise fun p q => p.2 ≠ q.2) {p q : SesK} (hp : p ∈ os) (hq : q ∈ os) (e : p.2 = q.2) : p = q := by
  induction os with
  | nil => cases hp
  | cons x l ih =>
    obtain ⟨a1, a2⟩ := List.pairwise_cons.1 ha
    rcases List.mem_cons.1 hp with g1 | g1
    · rcases List.mem_cons.1 hq with g2 | g2
      · rw [g1, g2]
      · exact absurd (by rw [← g1]; exact e) (a1 _ g2)
    · rcases List.mem_cons.1 hq with g2 | g2
      · exact absurd (by rw [← g2]; exact e.symm) (a1 _ g1)
      · exact ih a2 g1 g2
/-- An entry has come: it is one of the rest, and its map has been swept. -/
theorem SwO.step {f : Int} {os : List SesK} {xs : List RowV} {w w' : World} {bm r : Nat} {D D' : DataW Unit} {left left' : Lit → Bool} {gh cnt : Nat} {done rest : List SesK} (h : SwO f os xs w bm r D left gh done rest) (hk : os.Pairwise fun p q => p.1 ≠ q.1) (ha : os.Pairwise fun p q => p.2 ≠ q.2)
    {s : ByteArray} {k : Nat} (hp : (s, k) ∈ rest) (hl' : ∀ z, left' z = (left z && !z.sameKey (tk.lit s))) (hr : w'.ranges Tryz.prog 9 mapE.read bm r os.length D' left' cnt) (hm : MapAt cellE w' (some k) (entS (sweepV xs f) s))
    (e : ∀ p ∈ os, p.2 ≠ k → w'.heap[p.2]? = w.heap[p.2]?) (hal : (aliveS xs f (s, k) = true ∧ D' = D) ∨ (aliveS xs f (s, k) = false ∧ D' = D.del (tk.lit s))) :
    ∃ rest2, SwO f os xs w' bm r D' left' cnt (done ++ [(s, k)]) rest2 := by
  obtain ⟨a, c, rfl⟩ := List.append_of_mem hp
  have hpm : os.Perm ((done ++ [(s, k)]) ++ (a ++ c)) := by
    refine h.parts.trans ?_
    rw [List.append_assoc]
    refine List.Perm.append_left _ ?_
    exact List.perm_middle
  have hos : (s, k) ∈ os := h.parts.mem_iff.2 (List.mem_append_right _ hp)
  have hnd : ((done ++ [(s, k)]) ++ (a ++ c)).Pairwise fun p q => p.1 ≠ q.1 := (hpm.pairwise_iff fun h e => h e.symm).1 hk
  have hne : ∀ p ∈ done ++ (a ++ c), p.1 ≠ s := fun p hp1 e1 => by
    have h2 : ((s, k) :: (done ++ (a ++ c))).Pairwise fun p q => p.1 ≠ q.1 := by
      refine (List.Perm.pairwise_iff (fun h e => h e.symm) ?_).1 hnd
      have : (done ++ [(s, k)]) ++ (a ++ c) = done ++ (s, k) :: (a ++ c) := by simp
      rw [this]
      exact List.perm_middle
    exact (List.pairwise_cons.1 h2).1 p hp1 e1.symm
  have hs : tk.fits s := h.holds.fits (sesE (s, k)) (List.mem_map_of_mem (f := sesE) (List.mem_append_right _ hp))
  have hblk : ∀ p ∈ done ++ (a ++ c), p.2 ≠ k := fun p hp1 e1 => by
    have hpo : p ∈ os := hpm.mem_iff.2 (by
      rcases List.mem_append.1 hp1 with h1 | h1
      · exact List.mem_append_left _ (List.mem_append_left _ h1)
      · exact List.mem_append_right _ h1)
    have := ses_apart ha hpo hos e1
    exact hne p hp1 (by rw [this])
  refine ⟨a ++ c, hpm, hr, ?_, ?_, ?_, ?_, ?_⟩
  · rcases hal with ⟨hal, rfl⟩ | ⟨hal, rfl⟩
    · refine h.holds.perm (List.Perm.map _ ?_)
      rw [List.filter_append, List.filter_cons_of_pos hal]
      show (done.filter (aliveS xs f) ++ (a ++ (s, k) :: c)).Perm ((done.filter (aliveS xs f) ++ (s, k) :: []) ++ (a ++ c))
      rw [List.append_assoc]
      refine List.Perm.append_left _ ?_
      exact List.perm_middle
    · have h1 := h.holds.del hs
      have e1 : (((done.filter (aliveS xs f) ++ (a ++ (s, k) :: c)).map sesE).filter fun p => decide (p.1 ≠ s)) = ((done ++ [(s, k)]).filter (aliveS xs f) ++ (a ++ c)).map sesE := by
        rw [List.filter_map, List.filter_append, List.filter_append, List.filter_cons_of_neg (by simp), List.filter_append, List.filter_cons_of_neg (by rw [hal]; decide)]
        have k1 : ∀ l : List SesK, (∀ p ∈ l, p ∈ done ++ (a ++ c)) → l.filter ((fun p : ByteArray × Option Nat => decide (p.1 ≠ s)) ∘ sesE) = l := fun l hl => List.filter_eq_self.2 fun p hp => decide_eq_true (show p.1 ≠ s from hne p (hl p hp))
        rw [k1 (done.filter (aliveS xs f)) fun p hp => List.mem_append_left _ (List.mem_filter.1 hp).1, k1 a fun p hp => List.mem_append_right _ (List.mem_append_left _ hp), k1 c fun p hp => List.mem_append_right _ (List.mem_append_right _ hp)]
        simp
      have h2 : Holds16 tk mapE (D.del (tk.lit s)) (((done.filter (aliveS xs f) ++ (a ++ (s, k) :: c)).map sesE).filter fun p => decide (p.1 ≠ s)) := h1
      rw [e1] at h2
      exact h2
  · intro p hp1 hal1
    rw [hl']
    rcases List.mem_append.1 hp1 with h1 | h1
    · rw [h.ldone p h1 hal1]; rfl
    · rw [List.mem_singleton.1 h1, show (tk.lit (s, k).1).sameKey (tk.lit s) = true from tk.same hs]; simp
  · intro p hp1
    rw [hl']
    have hpr : p ∈ a ++ (s, k) :: c := by
      rcases List.mem_append.1 hp1 with h1 | h1
      · exact List.mem_append_left _ h1
      · exact List.mem_append_right _ (List.mem_cons_of_mem _ h1)
    rw [h.lrest p hpr, sameKey_ne fun e1 => hne p (List.mem_append_right _ hp1) (tk.lit_one (h.holds.fits (sesE p) (List.mem_map_of_mem (f := sesE) (List.mem_append_right _ hpr))) hs e1)]
    rfl
  · intro p hp1
    rcases List.mem_append.1 hp1 with h1 | h1
    · refine (h.idone p h1).same fun j hj => ?_
      obtain rfl := Option.some.inj hj
      exact e p (h.parts.mem_iff.2 (List.mem_append_left _ h1)) (hblk p (List.mem_append_left _ h1))
    · rw [List.mem_singleton.1 h1]
      exact hm
  · intro p hp1
    have hpr : p ∈ a ++ (s, k) :: c := by
      rcases List.mem_append.1 hp1 with h1 | h1
      · exact List.mem_append_left _ h1
      · exact List.mem_append_right _ (List.mem_cons_of_mem _ h1)
    refine (h.irest p hpr).same fun j hj => ?_
    obtain rfl := Option.some.inj hj
    exact e p (h.parts.mem_iff.2 (List.mem_append_right _ hpr)) (hblk p (List.mem_append_right _ hp1))
end Go.Proofs.YtgbhfhnbmgkaoaaGreatDoor
