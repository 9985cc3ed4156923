/-
  Texts of one claim, merged.
  StoreMath2: Plain mathematics of chapter 16: what can be got, what shows, how much of it. No program is run here.
  Text: Texts as lists of numbers below 256, and back. No conditions but those typed.
  TextEq: '==' and '!=' of two texts. No conditions.
-/
import Derived.Test.YtgbhfhnbmgkaoaaGreatDoorPart02
import Derived.Test.YtgbhfhnbmgkaoaaGreatDoorProg
import Derived.WalkKit
import Derived.Handy
import Derived.Outline
namespace StoreMath
open RegMath

/-- What is got: the value, or what is wrong. -/
def got (L : List Row) (s k : List Nat) : Sum (List Nat) Nat :=
  if k = [] then .inr 1 else if visible (head L s) = false then .inr 14 else match look L (s, k) with
    | none => .inr 7
    | some c => if visible c = true then .inl c.val else .inr 7
def keys (L : List Row) (s : List Nat) : List (List Nat) := (L.filter fun r => r.k.1 == s && (!r.k.2.isEmpty && visible r.c)).map fun r => r.k.2
def lives (L : List Row) : List (List Nat) := (L.filter fun r => r.k.2.isEmpty && visible r.c).map fun r => r.k.1
theorem shows_mem {L : List Row} {r : Row} : r ∈ shows L ↔ r ∈ L ∧ visible r.c = true ∧ visible (head L r.k.1) = true := by
  unfold shows
  rw [List.mem_filter, Bool.and_eq_true]
theorem shows_head {L : List Row} (h : Rising L) {r : Row} (hr : r ∈ shows L) (hk : r.k.2 = []) : head L r.k.1 = r.c := by
  have h1 := look_of_mem h (shows_mem.1 hr).1
  unfold head
  rw [← hk, h1]
  rfl
theorem shows_got {L : List Row} (h : Rising L) {r : Row} (hr : r ∈ shows L) (hk : r.k.2 ≠ []) : got L r.k.1 r.k.2 = .inl r.c.val := by
  obtain ⟨h1, h2, h3⟩ := shows_mem.1 hr
  unfold got
  rw [if_neg hk, if_neg (by rw [h3]; decide)]
  have := look_of_mem h h1
  rw [show (r.k.1, r.k.2) = r.k from rfl, this]
  simp only
  rw [if_pos h2]
/-- Rising keys are unlike one another. -/
theorem rising_nodup {L : List Row} (h : Rising L) : (L.map Row.k).Nodup := by
  unfold List.Nodup
  rw [List.pairwise_map]
  exact h.imp fun hab => klt_ne hab
theorem lives_mem {L : List Row} (h : Rising L) {s : List Nat} : s ∈ lives L ↔ visible (head L s) = true := by
  unfold lives
  rw [List.mem_map]
  constructor
  · rintro ⟨r, hr, rfl⟩
    rw [List.mem_filter, Bool.and_eq_true, List.isEmpty_iff] at hr
    have h1 := look_of_mem h hr.1
    unfold head
    rw [← hr.2.1, h1]
    exact hr.2.2
  · intro hv
    unfold head at hv
    cases hl : look L (s, []) with
    | none =>
      rw [hl] at hv
      exact absurd hv (by decide)
    | some c =>
      rw [hl] at hv
      exact ⟨⟨(s, []), c⟩, List.mem_filter.2 ⟨look_mem hl, by simpa using hv⟩, rfl⟩
theorem lives_nodup {L : List Row} (h : Rising L) : (lives L).Nodup := by
  unfold lives List.Nodup
  rw [List.pairwise_map, List.pairwise_filter]
  refine h.imp ?_
  intro a b hab ha hb e
  rw [Bool.and_eq_true, List.isEmpty_iff] at ha hb
  exact klt_ne hab (Prod.ext e (ha.1.trans hb.1.symm))
/-- A list counted by what each one belongs to. -/
theorem count_by {α β : Type} [DecidableEq β] (f : α → β) : ∀ (S : List β) (M : List α), S.Nodup → (∀ x ∈ M, f x ∈ S) → (S.map fun s => (M.filter fun x => f x = s).length).sum = M.length
  | S, [], _, _ => by
    have z : ∀ T : List β, (T.map fun _ => 0).sum = 0 := fun T => by
      induction T with
      | nil => rfl
      | cons t T ih => simpa using ih
    exact z S
  | S, x :: M, hS, h => by
    have ih := count_by f S M hS (fun y hy => h y (by simp [hy]))
    have hx := h x (by simp)
    clear h
    rw [List.length_cons, ← ih]
    clear ih
    have e : ∀ T : List β, T.Nodup → (T.map fun s => ((x :: M).filter fun y => f y = s).length).sum = (T.map fun s => (M.filter fun y => f y = s).length).sum + (if f x ∈ T then 1 else 0) := by
      intro T hT
      induction T with
      | nil => simp
      | cons t T ih =>
        obtain ⟨h1, h2⟩ := List.nodup_cons.1 hT
        rw [List.map_cons, List.sum_cons, List.map_cons, List.sum_cons, ih h2]
        by_cases e1 : f x = t
        · rw [List.filter_cons_of_pos (by simpa using e1), List.length_cons, if_neg (by rw [e1]; exact h1), if_pos (by rw [e1]; simp)]
          omega
        · rw [List.filter_cons_of_neg (by simpa using e1)]
          by_cases e2 : f x ∈ T
          · rw [if_pos e2, if_pos (List.mem_cons_of_mem _ e2)]
            omega
          · rw [if_neg e2, if_neg (fun h => (List.mem_cons.1 h).elim e1 e2)]
            omega
    rw [e S hS, if_pos hx]
theorem one_row : ∀ {L : List Row} {k : Key} {c : Cell}, Rising L → look L k = some c → L.filter (fun r => r.k = k) = [⟨k, c⟩]
  | [], k, c, _, h => by cases h
  | r :: L, k, c, hL, h => by
    obtain ⟨h1, h2⟩ := List.pairwise_cons.1 hL
    rw [look] at h
    by_cases e : r.k = k
    · rw [if_pos e] at h
      obtain rfl := Option.some.inj h
      rw [List.filter_cons_of_pos (by simpa using e)]
      subst e
      have : L.filter (fun x => decide (x.k = r.k)) = [] := by
        rw [List.filter_eq_nil_iff]
        intro x hx
        have := klt_ne (h1 x hx)
        simpa using fun e => this e.symm
      rw [this]
    · rw [if_neg e] at h
      rw [List.filter_cons_of_neg (by simpa using e)]
      exact one_row h2 h
/-- Of each session that lives what shows is its head and its keys. -/
theorem shows_of {L : List Row} (h : Rising L) {s : List Nat} (hs : visible (head L s) = true) : ((shows L).filter fun r => r.k.1 = s).length = 1 + (keys L s).length := by
  obtain ⟨c, hl, hv⟩ : ∃ c, look L (s, []) = some c ∧ visible c = true := by
    unfold head at hs
    cases hl : look L (s, []) with
    | none => rw [hl] at hs; exact absurd hs (by decide)
    | some c => rw [hl] at hs; exact ⟨c, rfl, hs⟩
  have h1 := one_row h hl
  unfold shows keys
  rw [List.filter_filter, List.length_map]
  have key : ∀ M : List Row, (M.filter fun r => decide (r.k.1 = s) && (visible r.c && visible (head L r.k.1))).length = ((M.filter fun r => r.k = (s, [])).filter fun r => visible r.c).length + (M.filter fun r => r.k.1 == s && (!r.k.2.isEmpty && visible r.c)).length := by
    intro M
    induction M with
    | nil => rfl
    | cons r M ih =>
      obtain ⟨⟨a, b⟩, d⟩ := r
      by_cases e1 : a = s
      · subst e1
        by_cases e2 : b = []
        · subst e2
          cases hd : visible d <;> simp [hd, hs, ih] <;> omega
        · cases hd : visible d <;> simp [hd, hs, e2, ih] <;> omega
      · simp [e1, ih]
  rw [key L, h1]
  simp [hv]
/-- P16.1: as many rows show as there are heads and keys of what lives. -/
theorem shows_count {L : List Row} (h : Rising L) : ((lives L).map fun s => 1 + (keys L s).length).sum = (shows L).length := by
  rw [← count_by (fun r : Row => r.k.1) (lives L) (shows L) (lives_nodup h) (fun r hr => (lives_mem h).2 (shows_mem.1 hr).2.2)]
  congr 1
  refine List.map_congr_left fun s hs => ?_
  exact (shows_of h ((lives_mem h).1 hs)).symm
end StoreMath
namespace TextNat
/-- A text's bytes. -/
def nats (s : ByteArray) : List Nat := s.data.toList.map UInt8.toNat
/-- The text of these bytes. -/
def txt (l : List Nat) : ByteArray := ⟨(l.map UInt8.ofNat).toArray⟩
theorem nats_len (s : ByteArray) : (nats s).length = s.size := by rw [nats, List.length_map]; exact Array.length_toList
theorem nats_lt (s : ByteArray) : ∀ b ∈ nats s, b < 256 := by
  intro b hb
  obtain ⟨x, _, rfl⟩ := List.mem_map.1 hb
  exact UInt8.toNat_lt x
theorem txt_len (l : List Nat) : (txt l).size = l.length := by simp [txt, ByteArray.size]
theorem txt_nats (s : ByteArray) : txt (nats s) = s := by
  obtain ⟨a⟩ := s
  simp only [txt, nats, List.map_map]
  congr 1
  have : (UInt8.ofNat ∘ UInt8.toNat) = id := by funext x; simp
  rw [this, List.map_id]
theorem nats_txt (l : List Nat) (h : ∀ b ∈ l, b < 256) : nats (txt l) = l := by
  simp only [txt, nats, List.map_map]
  have : ∀ l : List Nat, (∀ b ∈ l, b < 256) → l.map (UInt8.toNat ∘ UInt8.ofNat) = l := by
    intro l
    induction l with
    | nil => intro _; rfl
    | cons a r ih =>
      intro h
      have ha := h a (by simp)
      rw [List.map_cons, ih (fun b hb => h b (by simp [hb]))]
      congr 1
      show (UInt8.ofNat a).toNat = a
      rw [UInt8.toNat_ofNat']
      omega
  exact this l h
theorem nats_inj {s t : ByteArray} (h : nats s = nats t) : s = t := by rw [← txt_nats s, ← txt_nats t, h]
theorem nats_append (s t : ByteArray) : nats (s ++ t) = nats s ++ nats t := by
  have e : (s ++ t).data = s.data ++ t.data := by simp
  simp [nats, e]
theorem txt_append (a b : List Nat) : txt a ++ txt b = txt (a ++ b) := by
  have e : (txt a ++ txt b).data = (txt a).data ++ (txt b).data := by simp
  have h : ∀ x y : ByteArray, x.data = y.data → x = y := fun x y h => by cases x; cases y; simpa using h
  apply h
  rw [e]
  simp [txt]
theorem nats_at (s : ByteArray) (i : Nat) (h : i < s.size) : (nats s)[i]? = some (s[i].toNat) := by
  rw [nats, List.getElem?_map]
  have e : s.data.toList[i]? = some s[i] := by
    rw [Array.getElem?_toList]
    exact Array.getElem?_eq_getElem h
  rw [e]
  rfl
end TextNat
namespace Go.Proofs.YtgbhfhnbmgkaoaaGreatDoor
open Go.RowKit

theorem text_list {a b : ByteArray} (h : ¬ a = b) : ¬ a.toList = b.toList := fun k => h (by
  rw [ByteArray.toList_eq, ByteArray.toList_eq] at k
  cases a; cases b; simpa using k)
theorem none_list {a : ByteArray} (h : a = ⟨#[]⟩) : a.toList.isEmpty = true := by
  subst h
  rw [ByteArray.toList_eq]
  rfl
theorem some_list {a : ByteArray} (h : ¬ a = ⟨#[]⟩) : a.toList.isEmpty = false := by
  rw [ByteArray.toList_eq]
  cases e : a.data.toList.isEmpty with
  | false => rfl
  | true =>
    exfalso
    apply h
    cases a
    simpa using e
theorem add_text (a b : ByteArray) (h : a.size + b.size ≤ 9223372036854775807) (w : World) : (binOp .add 9 (.string a) (.string b)).run Tryz.prog w = .ok (.string (a ++ b)) w := by
  go_simp
theorem eql_text (a b : ByteArray) (w : World) : (binOp .eql 9 (.string a) (.string b)).run Tryz.prog w = .ok (.bool (decide (a = b))) w := by
  by_cases h : a = b
  · subst h
    go_simp
  · have k := text_list h
    go_simp
    all_goals simp_all
theorem neq_text (a b : ByteArray) (w : World) : (binOp .neq 9 (.string a) (.string b)).run Tryz.prog w = .ok (.bool (!decide (a = b))) w := by
  by_cases h : a = b
  · subst h
    go_simp
  · have k := text_list h
    go_simp
    all_goals simp_all
end Go.Proofs.YtgbhfhnbmgkaoaaGreatDoor
