/-
  Texts of one claim, merged.
  StoreSort: Plain mathematics of chapter 16: what stands in rising order and has the same members is one list; keys and sessions that live rise. No program is run here.
  StorePerm: Plain mathematics: the rows behind an Apply, in whatever order. No program is run here.
  TextSort: Texts that were sorted, in the words of the shelf's sort: they rise; whatever they came in. No program is run here.
-/
import Derived.Test.YtgbhfhnbmgkaoaaPart03
import Derived.Test.YtgbhfhnbmgkaoaaPart15
import Derived.Test.YtgbhfhnbmgkaoaaPart07
namespace StoreMath
open RegMath

/-- Two rising lists with the same members are one. -/
theorem rise_one {α : Type} {r : α → α → Bool} (hr : Strict r) : ∀ {a b : List α}, a.Pairwise (fun x y => r x y = true) → b.Pairwise (fun x y => r x y = true) → (∀ x, x ∈ a ↔ x ∈ b) → a = b
  | [], [], _, _, _ => rfl
  | [], y :: b, _, _, h => by have := (h y).2 (by simp); simp at this
  | x :: a, [], _, _, h => by have := (h x).1 (by simp); simp at this
  | x :: a, y :: b, h1, h2, h => by
    obtain ⟨a1, a2⟩ := List.pairwise_cons.1 h1
    obtain ⟨b1, b2⟩ := List.pairwise_cons.1 h2
    have hxy : x = y := by
      rcases List.mem_cons.1 ((h x).1 (by simp)) with e | hx
      · exact e
      · rcases List.mem_cons.1 ((h y).2 (by simp)) with e | hy
        · exact e.symm
        · have := hr.trans _ _ _ (a1 y hy) (b1 x hx)
          rw [hr.irr] at this
          cases this
    subst hxy
    rw [rise_one hr a2 b2 fun z => ⟨fun hz => ?_, fun hz => ?_⟩]
    · rcases List.mem_cons.1 ((h z).1 (List.mem_cons_of_mem _ hz)) with e | k
      · subst e
        have := a1 z hz
        rw [hr.irr] at this
        cases this
      · exact k
    · rcases List.mem_cons.1 ((h z).2 (List.mem_cons_of_mem _ hz)) with e | k
      · subst e
        have := b1 z hz
        rw [hr.irr] at this
        cases this
      · exact k
theorem klt_same {s a b : List Nat} : klt (s, a) (s, b) = lex a b := if_pos rfl
theorem keys_rise {L : List Row} (h : Rising L) (s : List Nat) : (keys L s).Pairwise fun a b => lex a b = true := by
  unfold keys
  rw [List.pairwise_map, List.pairwise_filter]
  refine h.imp ?_
  intro a b hab ha hb
  rw [Bool.and_eq_true, beq_iff_eq] at ha hb
  have e : klt (s, a.k.2) (s, b.k.2) = true := by
    have := hab
    rw [show a.k = (s, a.k.2) by rw [← ha.1], show b.k = (s, b.k.2) by rw [← hb.1]] at this
    exact this
  rw [klt_same] at e
  exact e
theorem lives_rise {L : List Row} (h : Rising L) : (lives L).Pairwise fun a b => lex a b = true := by
  unfold lives
  rw [List.pairwise_map, List.pairwise_filter]
  refine h.imp ?_
  intro a b hab ha hb
  rw [Bool.and_eq_true, List.isEmpty_iff] at ha hb
  have hab' : (if a.k.1 = b.k.1 then lex a.k.2 b.k.2 else lex a.k.1 b.k.1) = true := hab
  by_cases e : a.k.1 = b.k.1
  · rw [if_pos e, ha.1, hb.1, lex_irr] at hab'
    cases hab'
  · rw [if_neg e] at hab'
    exact hab'
theorem keys_mem {L : List Row} (h : Rising L) {s k : List Nat} : k ∈ keys L s ↔ k ≠ [] ∧ ∃ c, look L (s, k) = some c ∧ visible c = true := by
  unfold keys
  rw [List.mem_map]
  constructor
  · rintro ⟨r, hr, rfl⟩
    rw [List.mem_filter, Bool.and_eq_true, Bool.and_eq_true, beq_iff_eq] at hr
    obtain ⟨h1, h2, h3, h4⟩ := hr
    refine ⟨fun e => by rw [e] at h3; exact absurd h3 (by decide), r.c, ?_, h4⟩
    have := look_of_mem h h1
    rw [show r.k = (s, r.k.2) by rw [← h2]] at this
    exact this
  · rintro ⟨h1, c, h2, h3⟩
    refine ⟨⟨(s, k), c⟩, List.mem_filter.2 ⟨look_mem h2, ?_⟩, rfl⟩
    cases k with
    | nil => exact absurd rfl h1
    | cons x y => simp [h3]
/-- What was collected, once it is sorted. -/
theorem keys_sorted {L : List Row} (h : Rising L) {s : List Nat} {a : List (List Nat)} (ha : a.Pairwise fun x y => lex x y = true) (hm : ∀ k, k ∈ a ↔ k ≠ [] ∧ ∃ c, look L (s, k) = some c ∧ visible c = true) : a = keys L s :=
  rise_one strict_lex ha (keys_rise h s) fun k => (hm k).trans (keys_mem h).symm
theorem lives_sorted {L : List Row} (h : Rising L) {a : List (List Nat)} (ha : a.Pairwise fun x y => lex x y = true) (hm : ∀ s, s ∈ a ↔ visible (head L s) = true) : a = lives L :=
  rise_one strict_lex ha (lives_rise h) fun s => (hm s).trans (lives_mem h).symm
end StoreMath
namespace Go.Proofs.Ytgbhfhnbmgkaoaa
open Go.RowKit TextNat RegMath

theorem put_perm : ∀ {L : List StoreMath.Row} (k : StoreMath.Key) (c : Cell), StoreMath.Rising L → (StoreMath.put L k c).Perm (⟨k, c⟩ :: L.filter fun r => decide (r.k ≠ k))
  | [], k, c, _ => List.Perm.refl _
  | r :: L, k, c, h => by
    obtain ⟨h1, h2⟩ := List.pairwise_cons.1 h
    have all : ∀ {M : List StoreMath.Row}, (∀ x ∈ M, x.k ≠ k) → M.filter (fun r => decide (r.k ≠ k)) = M := fun hM => List.filter_eq_self.2 fun x hx => decide_eq_true (hM x hx)
    rw [StoreMath.put]
    by_cases e : r.k = k
    · rw [if_pos e, List.filter_cons_of_neg (by simp [e]), all fun x hx e2 => by
        have := h1 x hx
        rw [e2, ← e, StoreMath.strict_key.irr] at this
        cases this]
    · rw [if_neg e]
      by_cases e2 : StoreMath.klt k r.k = true
      · rw [if_pos e2, all fun x hx e3 => by
          rcases List.mem_cons.1 hx with rfl | hx
          · exact e e3
          · have := StoreMath.strict_key.trans _ _ _ e2 (h1 x hx)
            rw [e3, StoreMath.strict_key.irr] at this
            cases this]
      · rw [if_neg e2, List.filter_cons_of_pos (by simp [e])]
        exact ((put_perm k c h2).cons r).trans (List.Perm.swap _ _ _)
def atV (s k : ByteArray) (r : RowV) : Bool := decide (r.session = s ∧ r.key = k)
theorem k_iff (r : RowV) (s k : ByteArray) : r.r.k = (nats s, nats k) ↔ (r.session = s ∧ r.key = k) := by
  show (nats r.session, nats r.key) = (nats s, nats k) ↔ _
  constructor
  · intro e
    obtain ⟨e1, e2⟩ := Prod.mk.inj e
    exact ⟨by rw [← txt_nats r.session, e1, txt_nats], by rw [← txt_nats r.key, e2, txt_nats]⟩
  · rintro ⟨rfl, rfl⟩; rfl
theorem apply_perm {xs : List RowV} (y : WriteV) (h : StoreMath.Rising (xs.map RowV.r)) (hs : sameC xs y = false) :
    (applyV xs y).1.Perm (⟨y.session, y.key, newC xs y⟩ :: xs.filter fun r => !atV y.session y.key r) := by
  obtain ⟨x, hx⟩ : ∃ x : RowV, x = ⟨y.session, y.key, newC xs y⟩ := ⟨_, rfl⟩
  have e1 : ((applyV xs y).1).map RowV.r = StoreMath.put (xs.map RowV.r) x.r.k x.r.c := by
    unfold applyV
    rw [if_neg (by rw [hs]; decide), ← hx]
    unfold idxI
    cases hi : idxV xs y.session y.key with
    | none =>
      refine out_new x xs 0 fun r hr e => ?_
      unfold idxV at hi
      rw [List.findIdx?_eq_none_iff] at hi
      have := hi r hr
      rw [decide_eq_false_iff_not] at this
      rw [hx] at e
      exact this ((k_iff r y.session y.key).1 e)
    | some j =>
      obtain ⟨z, hz, h1, h2⟩ := idx_lt hi
      have := out_old x xs 0 j z h hz (by rw [hx]; exact (k_iff z y.session y.key).2 ⟨h1, h2⟩)
      rw [Nat.zero_add] at this
      exact this
  have e2 := put_perm x.r.k x.r.c h
  rw [← e1] at e2
  have e3 : (⟨x.r.k, x.r.c⟩ : StoreMath.Row) :: (xs.map RowV.r).filter (fun r => decide (r.k ≠ x.r.k)) = (x :: xs.filter fun r => !atV y.session y.key r).map RowV.r := by
    rw [List.map_cons, List.filter_map]
    refine congrArg _ (congrArg _ (List.filter_congr fun r _ => ?_))
    show decide (r.r.k ≠ x.r.k) = !atV y.session y.key r
    unfold atV
    rw [← decide_not, hx]
    exact decide_eq_decide.2 (not_congr (k_iff r y.session y.key))
  rw [e3] at e2
  have := e2.map RowV.of
  rw [rows_back, rows_back] at this
  rw [← hx]
  exact this
theorem map_one {α β : Type} {f : α → β} : ∀ {a b : List α}, (∀ x ∈ a, ∀ y ∈ b, f x = f y → x = y) → a.map f = b.map f → a = b
  | [], [], _, _ => rfl
  | [], _ :: _, _, h => by simp at h
  | _ :: _, [], _, h => by simp at h
  | x :: a, y :: b, hi, h => by
    rw [List.map_cons, List.map_cons] at h
    obtain ⟨h1, h2⟩ := List.cons.inj h
    rw [hi x (by simp) y (by simp) h1, map_one (fun x hx y hy => hi x (List.mem_cons_of_mem _ hx) y (List.mem_cons_of_mem _ hy)) h2]
end Go.Proofs.Ytgbhfhnbmgkaoaa
namespace Go.Proofs.Ytgbhfhnbmgkaoaa
open TextNat RegMath StoreMath

theorem bytes_lt : ∀ x y : List UInt8, x < y ↔ lex (x.map UInt8.toNat) (y.map UInt8.toNat) = true
  | x, [] => by
    refine ⟨fun h => absurd h (List.not_lt_nil x), fun h => ?_⟩
    cases x <;> cases h
  | [], y :: b => ⟨fun _ => rfl, fun _ => List.nil_lt_cons y b⟩
  | x :: a, y :: b => by
    rw [List.cons_lt_cons_iff, bytes_lt a b]
    show _ ↔ (decide (x.toNat < y.toNat) || (x.toNat == y.toNat && lex (a.map UInt8.toNat) (b.map UInt8.toNat))) = true
    rw [Bool.or_eq_true, Bool.and_eq_true, decide_eq_true_iff, beq_iff_eq, UInt8.lt_iff_toNat_lt]
    exact or_congr Iff.rfl (and_congr ⟨fun h => by rw [h], fun h => UInt8.toNat.inj h⟩ Iff.rfl)
/-- What was sorted, all of it unlike, rises. -/
theorem sorted_rises {ss : List (List UInt8)} (h : ss.Nodup) : ((ss.mergeSort fun x y => decide (x ≤ y)).map fun x => x.map UInt8.toNat).Pairwise fun a b => lex a b = true := by
  rw [List.pairwise_map]
  have h1 := List.pairwise_mergeSort (le := fun x y : List UInt8 => decide (x ≤ y)) (fun a b c hab hbc => by
    rw [decide_eq_true_iff] at hab hbc ⊢
    exact List.le_trans hab hbc) (fun a b => by
    rw [Bool.or_eq_true, decide_eq_true_iff, decide_eq_true_iff]
    exact List.le_total a b) ss
  have h2 : (ss.mergeSort fun x y => decide (x ≤ y)).Nodup := (List.mergeSort_perm ss _).nodup_iff.2 h
  refine (h1.and h2).imp ?_
  intro a b ⟨hab, hne⟩
  rw [decide_eq_true_iff] at hab
  rcases strict_lex.tri (a.map UInt8.toNat) (b.map UInt8.toNat) with e | e | e
  · refine absurd ?_ hne
    exact (List.map_inj_right fun _ _ h => UInt8.toNat.inj h).1 e
  · exact e
  · exact absurd ((bytes_lt b a).2 e) hab
/-- What was collected in whatever order, once it is sorted, is the one rising list of its members. -/
theorem sorted_is {ss : List (List UInt8)} (h : ss.Nodup) {b : List (List Nat)} (hb : b.Pairwise fun x y => lex x y = true) (hm : ∀ x, x ∈ ss.map (fun x => x.map UInt8.toNat) ↔ x ∈ b) : (ss.mergeSort fun x y => decide (x ≤ y)).map (fun x => x.map UInt8.toNat) = b := by
  refine rise_one strict_lex (sorted_rises h) hb fun x => ?_
  rw [← hm x, List.mem_map, List.mem_map]
  exact ⟨fun ⟨y, h1, h2⟩ => ⟨y, (List.mergeSort_perm ss _).mem_iff.1 h1, h2⟩, fun ⟨y, h1, h2⟩ => ⟨y, (List.mergeSort_perm ss _).mem_iff.2 h1, h2⟩⟩
end Go.Proofs.Ytgbhfhnbmgkaoaa
