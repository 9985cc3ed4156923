/-
  Plain mathematics of chapter 13: the pairs with a name; what a header's letters are. No program is run here.
-/
import Derived.Test.YtaniekpkcihpiaaCookieLaws
namespace Go.Proofs.Ytaniekpkcihpiaa
open TextNat CookieMath

theorem mem_header : ∀ {l : List CookieMath.Pair} {p : CookieMath.Pair}, p ∈ l → ∀ c, c ∈ p.1 ∨ c ∈ p.2 → c ∈ header l
  | q :: l, p, h, c, hc => by
    rw [header_cons]
    rcases List.mem_cons.1 h with rfl | h
    · refine List.mem_append.2 (.inl ?_)
      unfold one
      rcases hc with hc | hc
      · exact List.mem_append.2 (.inl hc)
      · exact List.mem_append.2 (.inr (List.mem_cons_of_mem _ hc))
    · refine List.mem_append.2 (.inr ?_)
      cases l with
      | nil => cases h
      | cons q2 r => exact List.mem_cons_of_mem _ (List.mem_cons_of_mem _ (mem_header h c hc))
theorem header_in : ∀ {l : List CookieMath.Pair} (c : Nat), c ∈ header l → c = 59 ∨ c = 32 ∨ c = 61 ∨ ∃ p ∈ l, c ∈ p.1 ∨ c ∈ p.2
  | q :: l, c, h => by
    rw [header_cons] at h
    rcases List.mem_append.1 h with h | h
    · unfold one at h
      rcases List.mem_append.1 h with h | h
      · exact .inr (.inr (.inr ⟨q, by simp, .inl h⟩))
      · rcases List.mem_cons.1 h with h | h
        · exact .inr (.inr (.inl h))
        · exact .inr (.inr (.inr ⟨q, by simp, .inr h⟩))
    · cases l with
      | nil => cases h
      | cons q2 r =>
        rcases List.mem_cons.1 h with h | h
        · exact .inl h
        · rcases List.mem_cons.1 h with h | h
          · exact .inr (.inl h)
          · rcases header_in c h with h | h | h | ⟨p, hp, h⟩
            · exact .inl h
            · exact .inr (.inl h)
            · exact .inr (.inr (.inl h))
            · exact .inr (.inr (.inr ⟨p, List.mem_cons_of_mem _ hp, h⟩))
theorem header_bytes (xs : List PairV) : ∀ c ∈ header (xs.map PairV.n), c < 256 := fun c hc => by
  rcases header_in c hc with h | h | h | ⟨p, hp, h⟩
  · omega
  · omega
  · omega
  · obtain ⟨q, _, rfl⟩ := List.mem_map.1 hp
    rcases h with h | h
    · exact nats_lt _ c h
    · exact nats_lt _ c h
/-- The pairs of a text are texts. -/
theorem parse_texts {s : ByteArray} {L : List CookieMath.Pair} (h : parse (nats s) = .inl L) : (L.map pairB).map PairV.n = L := by
  obtain ⟨h1, _⟩ := parse_is h
  have hb := nats_lt s
  rw [h1] at hb
  rw [List.map_map]
  conv => rhs; rw [← List.map_id L]
  exact List.map_congr_left fun p hp => n_pairB (fun c hc => hb c (mem_header hp c (.inl hc))) (fun c hc => hb c (mem_header hp c (.inr hc)))
/-- The pairs with this name among the first i. -/
def hits (xs : List PairV) (name : ByteArray) (i : Nat) : List PairV := (xs.take i).filter (fun p => decide (p.1 = name))
theorem hits_zero (xs : List PairV) (name : ByteArray) : hits xs name 0 = [] := rfl
theorem hits_yes {xs : List PairV} {name : ByteArray} {i : Nat} {x : PairV} (h : xs[i]? = some x) (hx : x.1 = name) : hits xs name (i + 1) = hits xs name i ++ [x] := by
  unfold hits
  rw [List.take_add_one, h, List.filter_append]
  congr 1
  show List.filter _ [x] = [x]
  rw [List.filter_cons_of_pos (by rw [hx]; simp)]
  rfl
theorem hits_no {xs : List PairV} {name : ByteArray} {i : Nat} {x : PairV} (h : xs[i]? = some x) (hx : ¬ x.1 = name) : hits xs name (i + 1) = hits xs name i := by
  unfold hits
  rw [List.take_add_one, h, List.filter_append]
  show _ ++ List.filter _ [x] = _
  rw [List.filter_cons_of_neg (by simpa using hx)]
  exact List.append_nil _
theorem hits_all (xs : List PairV) (name : ByteArray) (i : Nat) : ∃ r, hits xs name xs.length = hits xs name i ++ r := by
  refine ⟨(xs.drop i).filter (fun p => decide (p.1 = name)), ?_⟩
  unfold hits
  rw [← List.filter_append, List.take_append_drop, List.take_length]
theorem filter_hits (xs : List PairV) (name : ByteArray) : (xs.map PairV.n).filter (fun p => p.1 == nats name) = (hits xs name xs.length).map PairV.n := by
  unfold hits
  rw [List.take_length, List.filter_map]
  congr 1
  refine List.filter_congr fun p _ => ?_
  show (nats p.1 == nats name) = decide (p.1 = name)
  by_cases h : p.1 = name
  · rw [h]
    simp
  · rw [decide_eq_false h, beq_eq_false_iff_ne]
    exact fun e => h (by rw [← txt_nats p.1, e, txt_nats])
theorem find_by {s name : ByteArray} {xs : List PairV} (h : ¬ 4096 < s.size) (hp : parse (nats s) = .inl (xs.map PairV.n)) : findF (nats s) (nats name) = match hits xs name xs.length with
    | [] => .inr 7
    | [p] => .inl (nats p.2)
    | _ :: _ :: _ => .inr 8 := by
  rw [findF_is (by rw [nats_len]; exact h) hp, filter_hits]
  match hits xs name xs.length with
  | [] => rfl
  | [p] => rfl
  | _ :: _ :: _ => rfl

theorem hits_none {xs : List PairV} {name : ByteArray} (h : ∀ p ∈ xs, ¬ p.1 = name) : xs.filter (fun p => decide (p.1 = name)) = [] := by
  rw [List.filter_eq_nil_iff]
  intro p hp
  simpa using h p hp
theorem hits_one {a b : List PairV} {p : PairV} (ha : ∀ q ∈ a, ¬ q.1 = p.1) (hb : ∀ q ∈ b, ¬ q.1 = p.1) : hits (a ++ [p] ++ b) p.1 (a ++ [p] ++ b).length = [p] := by
  unfold hits
  rw [List.take_length, List.filter_append, List.filter_append, hits_none ha, hits_none hb]
  simp
theorem hits_two {a b : List PairV} {p : PairV} (ha : ∀ q ∈ a, ¬ q.1 = p.1) (hb : ∀ q ∈ b, ¬ q.1 = p.1) : hits (a ++ [p] ++ b ++ [p]) p.1 (a ++ [p] ++ b ++ [p]).length = [p, p] := by
  unfold hits
  rw [List.take_length, List.filter_append, List.filter_append, List.filter_append, hits_none ha, hits_none hb]
  simp
end Go.Proofs.Ytaniekpkcihpiaa
