/-
  Texts of one claim, merged.
  JournalDisk: Plain mathematics of chapter 10: what a write does to a device, whether it has a fuse or no room, and what a crash leaves of it. No program, no conditions but those typed.
  JournalLive: Plain mathematics of chapter 10: whole parts, and what Open makes of what a crash leaves. No program, no conditions but those typed.
  JournalStep: Plain mathematics of chapter 10: what a journal that lives has on its devices; what Put, Start, a crash and Open make of that. No program, no conditions but those typed.
  JournalStep2: Plain mathematics of chapter 10: Put, Start and crashes, over a journal that lives. No program, no conditions but those typed.
  JournalStep3: Plain mathematics of chapter 10: Start over a journal that lives; Open over two new devices. No program, no conditions but those typed.
  JournalEnd: Plain mathematics of chapter 10: Open over two new devices; a byte that is turned. No program, no conditions but those typed.
  Mark: Rows of one-cell elements that the call itself made, the run-time's mark behind the last cell allowed (a row that '[]byte(s)' makes bears it): what such a row is, a store into it, append onto it, for any program. No conditions but those typed.
  JournalLaws: The contracts of the program's functions of chapter 10, as sentences that its laws start from; however a journal and its devices lie in memory. No conditions but those typed.
  TextEq: '==' and '!=' of two texts. No conditions.
  JournalAwake: The document's example of chapter 10, and two devices of a room. The conditions: the program's contracts.
  JournalAwake2: The document's example of chapter 10. The conditions: the program's contracts.
  JournalRow: Texts appended onto a row of the call's own. No conditions but those typed.
-/
import Derived.Test.YtajkldmpllphjaaDoorPart02
import Derived.Laws.AppendOwn
import Derived.Laws.OwnMore
import Derived.Laws.IdiomStrings
import Derived.Below
import Derived.Test.YtajkldmpllphjaaDoorPart01
import Derived.OwnWalk
import Derived.Test.YtajkldmpllphjaaDoorProg
import Derived.WalkKit
import Derived.Handy
import Derived.Outline
namespace JournalMath
open TextNat BlockMath FrameMath
/-- A device of which all is safe, with the power on. -/
structure Still (d : Dk) (l : List Nat) : Prop where
  off : d.off = false
  late : d.late = ByteArray.empty
  done : nats d.done = l
/-- A device without power: what was safe, and what was not. -/
structure Dead (d : Dk) (l r : List Nat) : Prop where
  off : d.off = true
  late : nats d.late = r
  done : nats d.done = l
theorem Still.all {d : Dk} {l : List Nat} (h : Still d l) : all d = d.done := by unfold BlockMath.all; rw [h.late, ba_end]
theorem Still.size {d : Dk} {l : List Nat} (h : Still d l) : (BlockMath.all d).size = l.length := by rw [h.all, ← h.done, nats_len]
theorem Still.dsize {d : Dk} {l : List Nat} (h : Still d l) : d.done.size = l.length := by rw [← h.done, nats_len]
theorem Still.nats {d : Dk} {l : List Nat} (h : Still d l) : nats (BlockMath.all d) = l := by rw [h.all, h.done]
theorem doesD_off_of {d : Dk} (h : d.off = false) (hd : doesB d = false) : (doesD d).off = true := by
  unfold doesB at hd
  rw [h] at hd
  simp at hd
  unfold doesD
  rw [if_neg (by rw [h]; simp), if_pos hd]
theorem doesD_on_of {d : Dk} (h : d.off = false) (hd : doesB d = true) : (doesD d).off = false := by
  unfold doesB at hd
  rw [h] at hd
  simp at hd
  unfold doesD
  rw [if_neg (by rw [h]; simp), if_neg hd]
  split
  · exact h
  · exact h
/-- Without a fuse all goes on. -/
theorem doesB_free {d : Dk} (h : d.off = false) (hf : d.fuse = -1) : doesB d = true := doesB_on h hf
theorem nil_nats : nats ByteArray.empty = [] := rfl
theorem nil_of {s : ByteArray} (h : nats s = []) : s = ByteArray.empty := nats_inj (by rw [h]; rfl)
theorem dead_of {d : Dk} {l r : List Nat} (ho : d.off = false) (hd : doesB d = false) (h1 : nats d.done = l) (h2 : nats d.late = r) : Dead (doesD d) l r :=
  ⟨doesD_off_of ho hd, by rw [doesD_late, h2], by rw [doesD_done, h1]⟩
/-- What a Sync answers. -/
theorem sync_cases {d : Dk} {l r : List Nat} (ho : d.off = false) (h1 : nats d.done = l) (h2 : nats d.late = r) :
    ((sync d).1 = 0 ∧ Still (sync d).2 (l ++ r) ∧ (sync d).2.room = d.room ∧ (d.fuse = -1 → (sync d).2.fuse = -1)) ∨ ((sync d).1 = 5 ∧ Dead (sync d).2 l r ∧ d.fuse ≠ -1) := by
  unfold sync
  cases hd : doesB d with
  | true =>
    left
    rw [if_pos rfl]
    refine ⟨rfl, ⟨doesD_on_of ho hd, rfl, ?_⟩, doesD_room d, fun hf => ?_⟩
    · show nats (BlockMath.all (doesD d)) = _
      unfold BlockMath.all
      rw [nats_append, doesD_done, doesD_late, h1, h2]
    · show (doesD d).fuse = -1
      rw [doesD_on ho hf, hf]
  | false =>
    right
    rw [if_neg (by simp)]
    exact ⟨rfl, dead_of ho hd h1 h2, fun hf => by rw [doesB_on ho hf] at hd; cases hd⟩
/-- What an Append answers. -/
theorem append_cases {d : Dk} {l t : List Nat} (h : Still d l) (ht : Oct t) :
    ((append (txt t) d).1 = 4 ∧ (append (txt t) d).2 = d ∧ d.room < (l.length : Int) + (t.length : Int)) ∨
    ((append (txt t) d).1 = 0 ∧ (append (txt t) d).2.off = false ∧ nats (append (txt t) d).2.done = l ∧ nats (append (txt t) d).2.late = t ∧ (append (txt t) d).2.room = d.room ∧ (d.fuse = -1 → (append (txt t) d).2.fuse = -1) ∧ (l.length : Int) + (t.length : Int) ≤ d.room) ∨
    ((append (txt t) d).1 = 5 ∧ Dead (append (txt t) d).2 l [] ∧ d.fuse ≠ -1) := by
  unfold append
  by_cases hf : d.off = false ∧ d.room - ((BlockMath.all d).size : Int) < ((txt t).size : Int)
  · left
    rw [if_pos hf]
    refine ⟨rfl, rfl, ?_⟩
    have := hf.2
    rw [h.size, txt_len] at this
    omega
  · right
    rw [if_neg hf]
    have hroom : (l.length : Int) + (t.length : Int) ≤ d.room := by
      rcases Int.lt_or_le d.room ((l.length : Int) + (t.length : Int)) with h1 | h1
      · exact absurd ⟨h.off, by rw [h.size, txt_len]; omega⟩ hf
      · exact h1
    cases hd : doesB d with
    | true =>
      left
      rw [if_pos rfl]
      refine ⟨rfl, doesD_on_of h.off hd, by show nats (doesD d).done = _; rw [doesD_done, h.done], ?_, doesD_room d, fun hf => ?_, hroom⟩
      · show nats ((doesD d).late ++ txt t) = _
        rw [doesD_late, h.late, ba_nil, nats_txt t ht]
      · show (doesD d).fuse = -1
        rw [doesD_on h.off hf, hf]
    | false =>
      right
      rw [if_neg (by simp)]
      exact ⟨rfl, dead_of h.off hd h.done (by rw [h.late]; rfl), fun hf => by rw [doesB_on h.off hf] at hd; cases hd⟩
/-- What a Cut answers. -/
theorem cut_cases {d : Dk} {l : List Nat} {c : Nat} (h : Still d l) (hc : c ≤ l.length) :
    ((cut c d).1 = 0 ∧ Still (cut c d).2 (l.take c) ∧ (cut c d).2.room = d.room ∧ (d.fuse = -1 → (cut c d).2.fuse = -1)) ∨ ((cut c d).1 = 5 ∧ Dead (cut c d).2 l [] ∧ d.fuse ≠ -1) := by
  unfold cut
  rw [if_neg (by rw [h.size]; omega)]
  cases hd : doesB d with
  | true =>
    left
    rw [if_pos rfl]
    have e : cutD (c : Int).toNat (doesD d) = { doesD d with done := d.done.extract 0 c, late := ByteArray.empty } := by
      show cutD c (doesD d) = _
      unfold cutD
      rw [if_pos (by rw [doesD_done, h.dsize]; exact hc), doesD_done]
    rw [e]
    refine ⟨rfl, ⟨doesD_on_of h.off hd, rfl, ?_⟩, doesD_room d, fun hf => ?_⟩
    · show nats (d.done.extract 0 c) = _
      rw [nats_extract, h.done]
    · show (doesD d).fuse = -1
      rw [doesD_on h.off hf, hf]
  | false =>
    right
    rw [if_neg (by simp)]
    exact ⟨rfl, dead_of h.off hd h.done (by rw [h.late]; rfl), fun hf => by rw [doesB_on h.off hf] at hd; cases hd⟩
/-- What a crash leaves. -/
theorem crash_still {d : Dk} {l r : List Nat} (h1 : nats d.done = l) (h2 : nats d.late = r) (k : Int) (mask : ByteArray) :
    ∃ r', Lossy r' r ∧ Still (crash k mask d) (l ++ r') ∧ (crash k mask d).room = d.room ∧ (crash k mask d).fuse = -1 := by
  refine ⟨kept d.late mask (stays k d), ?_, ⟨rfl, rfl, ?_⟩, rfl, rfl⟩
  · have hn := stays_le k d
    have hkl := kept_len d.late mask hn
    refine ⟨by rw [hkl, ← h2, nats_len]; exact hn, fun i z c hz hc => ?_⟩
    have hi : i < stays k d := by rw [← hkl]; exact (List.getElem?_eq_some_iff.1 hz).1
    rw [← h2] at hc
    rw [kept_at hi hc] at hz
    have hz' := Option.some.inj hz
    rw [← hz']
    exact left_or mask i c
  · show nats (d.done ++ txt (kept d.late mask (stays k d))) = _
    rw [nats_append, h1, nats_txt _ (kept_lt d.late mask _)]
theorem lossy_nil (e : List Nat) : Lossy [] e := ⟨Nat.zero_le _, fun i z c hz => by cases hz⟩
theorem lossy_of_nil {r : List Nat} (h : Lossy r []) : r = [] := List.eq_nil_of_length_eq_zero (by have := h.1; simpa using this)
/-- A mark. -/
def mark (gen place : Nat) : List Nat := sealP ⟨4, gen, place, []⟩
/-- What marks answers. -/
theorem marks_cases {d : Dk} {l r : List Nat} {gen : Nat} (ho : d.off = false) (h1 : nats d.done = l) (h2 : nats d.late = r) (hm : Oct (mark gen (l ++ r).length)) :
    ((marks d gen).1 = 0 ∧ Still (marks d gen).2 (l ++ r ++ mark gen (l ++ r).length) ∧ (marks d gen).2.room = d.room ∧ (d.fuse = -1 → (marks d gen).2.fuse = -1)) ∨
    ((marks d gen).1 = 4 ∧ Still (marks d gen).2 (l ++ r) ∧ (marks d gen).2.room = d.room ∧ (d.fuse = -1 → (marks d gen).2.fuse = -1) ∧ d.room < ((l ++ r).length : Int) + ((mark gen (l ++ r).length).length : Int)) ∨
    ((marks d gen).1 = 5 ∧ (Dead (marks d gen).2 l r ∨ Dead (marks d gen).2 (l ++ r) [] ∨ Dead (marks d gen).2 (l ++ r) (mark gen (l ++ r).length)) ∧ d.fuse ≠ -1) := by
  unfold marks
  rcases sync_cases ho h1 h2 with ⟨e1, s1, r1, f1⟩ | ⟨e1, s1, f1⟩
  · rw [if_neg (by rw [e1]; simp)]
    have hsz : (sync d).2.done.size = (l ++ r).length := s1.dsize
    rw [hsz]
    show _ ∨ _ ∨ _
    have hM : sealP ⟨4, gen, (l ++ r).length, []⟩ = mark gen (l ++ r).length := rfl
    rw [hM]
    rcases append_cases s1 hm with ⟨e2, s2, q2⟩ | ⟨e2, o2, d2, l2, r2, f2, _⟩ | ⟨e2, s2, f2⟩
    · right
      left
      rw [if_pos (by rw [e2]; decide), e2, s2]
      exact ⟨rfl, s1, r1, f1, by rw [r1] at q2; exact q2⟩
    · rw [if_neg (by rw [e2]; simp)]
      rcases sync_cases o2 d2 l2 with ⟨e3, s3, r3, f3⟩ | ⟨e3, s3, f3⟩
      · left
        exact ⟨e3, s3, by rw [r3, r2, r1], fun h => f3 (f2 (f1 h))⟩
      · right
        right
        exact ⟨e3, .inr (.inr s3), fun h => f3 (f2 (f1 h))⟩
    · right
      right
      rw [if_pos (by rw [e2]; decide), e2]
      exact ⟨rfl, .inr (.inl s2), fun h => f2 (f1 h)⟩
  · right
    right
    rw [if_pos (by rw [e1]; decide), e1]
    exact ⟨rfl, .inl s1, f1⟩
/-- What a write answers. -/
theorem write_cases {d : Dk} {l t : List Nat} {gen c : Nat} (h : Still d l) (ht : Oct t) (hm : Oct (mark gen (l ++ t).length)) (hc : c ≤ l.length) :
    ((write d gen c t).1 = 0 ∧ Still (write d gen c t).2 (l ++ t ++ mark gen (l ++ t).length) ∧ (write d gen c t).2.room = d.room ∧ (l.length : Int) + (t.length : Int) ≤ d.room ∧ (d.fuse = -1 → (write d gen c t).2.fuse = -1)) ∨
    ((write d gen c t).1 = 4 ∧ Still (write d gen c t).2 (l.take c) ∧ (write d gen c t).2.room = d.room ∧ (d.fuse = -1 → (write d gen c t).2.fuse = -1) ∧ d.room < ((l ++ t).length : Int) + ((mark gen (l ++ t).length).length : Int)) ∨
    ((write d gen c t).1 = 5 ∧ (∃ r, (Dead (write d gen c t).2 l r ∧ (r = [] ∨ (r = t ∧ (l.length : Int) + (t.length : Int) ≤ d.room))) ∨ (Dead (write d gen c t).2 (l ++ t) r ∧ (r = [] ∨ r = mark gen (l ++ t).length) ∧ (l.length : Int) + (t.length : Int) ≤ d.room)) ∧ d.fuse ≠ -1) := by
  unfold write
  rcases append_cases h ht with ⟨e1, s1, q1⟩ | ⟨e1, o1, d1, l1, r1, f1, hroom⟩ | ⟨e1, s1, f1⟩
  · rw [if_neg (by rw [e1]; decide)]
    unfold undo
    rw [if_pos e1, s1]
    rcases cut_cases h hc with ⟨e2, s2, r2, f2⟩ | ⟨e2, s2, f2⟩
    · right
      left
      rw [if_neg (by rw [e2]; simp)]
      exact ⟨rfl, s2, r2, f2, by rw [List.length_append]; omega⟩
    · right
      right
      rw [if_pos (by rw [e2]; decide)]
      exact ⟨e2, ⟨[], .inl ⟨s2, .inl rfl⟩⟩, f2⟩
  · rw [if_pos e1]
    rcases marks_cases (gen := gen) o1 d1 l1 hm with ⟨e2, s2, r2, f2⟩ | ⟨e2, s2, r2, f2, q2⟩ | ⟨e2, s2, f2⟩
    · left
      unfold undo
      rw [if_neg (by rw [e2]; decide)]
      exact ⟨e2, s2, by rw [r2, r1], hroom, fun h => f2 (f1 h)⟩
    · unfold undo
      rw [if_pos e2]
      rcases cut_cases s2 (c := c) (by rw [List.length_append]; omega) with ⟨e3, s3, r3, f3⟩ | ⟨e3, s3, f3⟩
      · right
        left
        rw [if_neg (by rw [e3]; simp)]
        rw [List.take_append_of_le_length hc] at s3
        exact ⟨rfl, s3, by rw [r3, r2, r1], fun h => f3 (f2 (f1 h)), by rw [r1] at q2; exact q2⟩
      · right
        right
        rw [if_pos (by rw [e3]; decide)]
        exact ⟨e3, ⟨[], .inr ⟨s3, .inl rfl, hroom⟩⟩, fun h => f3 (f2 (f1 h))⟩
    · right
      right
      unfold undo
      rw [if_neg (by rw [e2]; decide)]
      refine ⟨e2, ?_, fun h => f2 (f1 h)⟩
      rcases s2 with s2 | s2 | s2
      · exact ⟨t, .inl ⟨s2, .inr ⟨rfl, hroom⟩⟩⟩
      · exact ⟨[], .inr ⟨s2, .inl rfl, hroom⟩⟩
      · exact ⟨_, .inr ⟨s2, .inr rfl, hroom⟩⟩
  · rw [if_neg (by rw [e1]; decide)]
    unfold undo
    rw [if_neg (by rw [e1]; decide)]
    right
    right
    exact ⟨e1, ⟨[], .inl ⟨s1, .inl rfl⟩⟩, f1⟩
end JournalMath
namespace JournalMath
open TextNat BlockMath FrameMath
def Tail (g : Nat) (l : List Part) : Prop := ∀ p ∈ l, (p.kind = 2 ∨ p.kind = 4) ∧ p.gen = g
/-- A whole generation's parts. -/
structure Gd (g : Nat) (ps : List Part) : Prop where
  valid : ∀ p ∈ ps, Valid p
  form : ∃ l T, ps = anew g l ++ T ∧ Tail g T
theorem wholeF_recs (g pl : Nat) (X : List Part) : ∀ l : List (List Nat), wholeF g false 0 (recordsP g pl l ++ X) = wholeF g false 0 X
  | [] => rfl
  | t :: l => by
    show wholeF g false 0 (⟨2, g, pl, t⟩ :: (recordsP g pl l ++ X)) = _
    rw [wholeF, if_pos (by simp)]
    exact wholeF_recs g pl X l
theorem wholeF_tail (g : Nat) : ∀ l : List Part, Tail g l → wholeF g false 1 l = true
  | [], _ => rfl
  | p :: l, h => by
    have hp := h p (by simp)
    have e : (if p.kind = 3 then 1 else 0) = 0 := by
      rw [if_neg]
      rcases hp.1 with h1 | h1 <;> omega
    rw [wholeF, if_pos ⟨hp.2, ⟨fun h1 => by rcases hp.1 with h2 | h2 <;> omega, fun h1 => by cases h1⟩, fun h1 => by have := h1.2; omega⟩, e]
    exact wholeF_tail g l fun q hq => h q (by simp [hq])
theorem whole_anew (g : Nat) (l : List (List Nat)) (T : List Part) (h : Tail g T) : whole (anew g l ++ T) = true := by
  show wholeF g true 0 (⟨1, g, 0, []⟩ :: ((recordsP g 0 l ++ [⟨3, g, 0, []⟩]) ++ T)) = true
  rw [wholeF, if_pos (by simp), List.append_assoc]
  show wholeF g false 0 _ = true
  rw [wholeF_recs]
  show wholeF g false 0 (⟨3, g, 0, []⟩ :: T) = true
  rw [wholeF, if_pos (by simp)]
  exact wholeF_tail g T h
theorem Gd.whole {g : Nat} {ps : List Part} (h : Gd g ps) : whole ps = true := by
  obtain ⟨l, T, rfl, hT⟩ := h.form
  exact whole_anew g l T hT
theorem Gd.gen {g : Nat} {ps : List Part} (h : Gd g ps) : genOf ps = g := by
  obtain ⟨l, T, rfl, hT⟩ := h.form
  show (if (1 : Nat) = 1 then g else 0) = g
  rw [if_pos rfl]
theorem whole_part (g : Nat) (l : List (List Nat)) {k : Nat} (hk : k < (anew g l).length) : whole ((anew g l).take k) = false := by
  match k, hk with
  | 0, _ => rfl
  | k + 1, hk =>
    have hl : k ≤ (recordsP g 0 l).length := by
      unfold anew at hk
      rw [List.length_cons, List.length_append, List.length_singleton] at hk
      omega
    have e : (anew g l).take (k + 1) = ⟨1, g, 0, []⟩ :: (recordsP g 0 (l.take k)) := by
      unfold anew
      rw [List.take_succ_cons, List.take_append_of_le_length hl]
      unfold recordsP
      rw [List.map_take]
    rw [e]
    show wholeF g true 0 _ = false
    rw [wholeF, if_pos (by simp)]
    have := wholeF_recs g 0 [] (l.take k)
    rw [List.append_nil] at this
    show wholeF g false 0 _ = false
    rw [this]
    rfl
theorem recs_append (a b : List Part) : recs (a ++ b) = recs a ++ recs b := by unfold recs; rw [List.filterMap_append]
theorem recs_recordsP (g pl : Nat) : ∀ l : List (List Nat), recs (recordsP g pl l) = l
  | [] => rfl
  | t :: l => by
    have ih := recs_recordsP g pl l
    unfold recs recordsP at ih ⊢
    rw [List.map_cons, List.filterMap_cons]
    simp only [if_pos]
    rw [ih]
theorem recs_anew (g : Nat) (l : List (List Nat)) : recs (anew g l) = l := by
  show recs ([⟨1, g, 0, []⟩] ++ (recordsP g 0 l ++ [⟨3, g, 0, []⟩])) = l
  rw [recs_append, recs_append, recs_recordsP]
  show [] ++ (l ++ []) = l
  simp
theorem recs_mark (g pl : Nat) : recs [⟨4, g, pl, []⟩] = [] := rfl
theorem recordsP_take (g pl k : Nat) (l : List (List Nat)) : (recordsP g pl l).take k = recordsP g pl (l.take k) := by unfold recordsP; rw [List.map_take]
/-- The last part is a Mark, or none is. -/
def Sealed (ps : List Part) : Prop := ps.getLast?.map Part.kind = some 4 ∨ ∀ p ∈ ps, p.kind ≠ 4
theorem sealedN_zero : ∀ {ps : List Part}, sealedN ps = 0 → ∀ p ∈ ps, p.kind ≠ 4
  | [], _, p, hp => by cases hp
  | q :: ps, h, p, hp => by
    unfold sealedN at h
    split at h
    · rename_i h0
      split at h
      · cases h
      · rename_i h4
        rcases List.mem_cons.1 hp with rfl | hp
        · exact h4
        · exact sealedN_zero h0 p hp
    · omega
theorem sealedN_none : ∀ {ps : List Part}, (∀ p ∈ ps, p.kind ≠ 4) → sealedN ps = 0
  | [], _ => rfl
  | q :: ps, h => by
    unfold sealedN
    rw [if_pos (sealedN_none fun p hp => h p (by simp [hp])), if_neg (h q (by simp))]
theorem sealedN_le : ∀ ps : List Part, sealedN ps ≤ ps.length
  | [] => Nat.le_refl _
  | q :: ps => by
    unfold sealedN
    have := sealedN_le ps
    split
    · split
      · rw [List.length_cons]; omega
      · omega
    · rw [List.length_cons]; omega
/-- The part ahead of the place that sealedN says is a Mark. -/
theorem sealedN_mark : ∀ {ps : List Part}, 0 < sealedN ps → (ps.take (sealedN ps)).getLast?.map Part.kind = some 4
  | [], h => by cases h
  | q :: ps, h => by
    unfold sealedN at h ⊢
    by_cases h0 : sealedN ps = 0
    · rw [if_pos h0] at h ⊢
      by_cases h4 : q.kind = 4
      · rw [if_pos h4]
        simp [h4]
      · rw [if_neg h4] at h
        cases h
    · rw [if_neg h0]
      have ih := sealedN_mark (ps := ps) (by omega)
      rw [List.take_succ_cons, List.getLast?_cons]
      cases hg : (ps.take (sealedN ps)).getLast? with
      | none => rw [hg] at ih; cases ih
      | some x =>
        rw [hg] at ih
        exact ih
theorem sealedN_append {ps X : List Part} (hX : ∀ p ∈ X, p.kind ≠ 4) : sealedN (ps ++ X) = sealedN ps := by
  induction ps with
  | nil => exact sealedN_none hX
  | cons q ps ih =>
    rw [List.cons_append]
    unfold sealedN
    rw [ih]
theorem sealedN_last {ps : List Part} (h : ps.getLast?.map Part.kind = some 4) : sealedN ps = ps.length := by
  induction ps with
  | nil => cases h
  | cons q ps ih =>
    unfold sealedN
    by_cases hn : ps = []
    · subst hn
      simp at h
      rw [if_pos (show sealedN [] = 0 from rfl), if_pos h]
      rfl
    · have h2 : ps.getLast?.map Part.kind = some 4 := by
        rw [List.getLast?_cons] at h
        cases hg : ps.getLast? with
        | none => rw [List.getLast?_eq_none_iff] at hg; exact absurd hg hn
        | some x =>
          rw [hg] at h
          exact h
      have ih2 := ih h2
      have : 0 < ps.length := by
        cases ps with
        | nil => exact absurd rfl hn
        | cons _ _ => rw [List.length_cons]; omega
      rw [if_neg (by omega), ih2, List.length_cons]
theorem getLast_append_ne {a b : List Part} (hb : b ≠ []) : (a ++ b).getLast? = b.getLast? := by
  rw [List.getLast?_append]
  cases h : b.getLast? with
  | none => rw [List.getLast?_eq_none_iff] at h; exact absurd h hb
  | some x => rfl
theorem anew_no_mark (g : Nat) (l : List (List Nat)) : ∀ p ∈ anew g l, p.kind ≠ 4 := by
  intro p hp
  unfold anew recordsP at hp
  simp only [List.mem_cons, List.mem_append, List.mem_map, List.not_mem_nil, or_false] at hp
  rcases hp with rfl | ⟨t, _, rfl⟩ | rfl <;> simp
theorem recordsP_no_mark (g pl : Nat) (l : List (List Nat)) : ∀ p ∈ recordsP g pl l, p.kind ≠ 4 := by
  intro p hp
  unfold recordsP at hp
  obtain ⟨t, _, rfl⟩ := List.mem_map.1 hp
  simp
theorem recordsP_tail (g pl : Nat) (l : List (List Nat)) : Tail g (recordsP g pl l) := by
  intro p hp
  unfold recordsP at hp
  obtain ⟨t, _, rfl⟩ := List.mem_map.1 hp
  exact ⟨.inl rfl, rfl⟩
theorem mark_tail (g pl : Nat) : Tail g [⟨4, g, pl, []⟩] := by
  intro p hp
  rw [List.mem_singleton] at hp
  subst hp
  exact ⟨.inr rfl, rfl⟩
theorem Gd.more {g : Nat} {ps X : List Part} (h : Gd g ps) (hX : Tail g X) (hv : ∀ p ∈ X, Valid p) : Gd g (ps ++ X) := by
  obtain ⟨l, T, rfl, hT⟩ := h.form
  refine ⟨fun p hp => ?_, l, T ++ X, by rw [List.append_assoc], fun p hp => ?_⟩
  · rcases List.mem_append.1 hp with h1 | h1
    · exact h.valid p h1
    · exact hv p h1
  · rcases List.mem_append.1 hp with h1 | h1
    · exact hT p h1
    · exact hX p h1
theorem Gd.sealed {g : Nat} {ps : List Part} (h : Gd g ps) (h0 : 0 < sealedN ps) : Gd g (ps.take (sealedN ps)) := by
  have hv := h.valid
  obtain ⟨l, T, rfl, hT⟩ := h.form
  have hn : (anew g l).length ≤ sealedN (anew g l ++ T) := by
    rcases Nat.lt_or_ge (sealedN (anew g l ++ T)) (anew g l).length with h1 | h1
    · have hm := sealedN_mark h0
      rw [List.take_append_of_le_length (by omega)] at hm
      cases hg : ((anew g l).take (sealedN (anew g l ++ T))).getLast? with
      | none => rw [hg] at hm; cases hm
      | some x =>
        rw [hg] at hm
        have hx := List.mem_of_mem_take (List.mem_of_getLast? hg)
        exact absurd (Option.some.inj hm) (anew_no_mark g l x hx)
    · exact h1
  refine ⟨fun p hp => hv p (List.mem_of_mem_take hp), l, T.take (sealedN (anew g l ++ T) - (anew g l).length), ?_, fun p hp => hT p (List.mem_of_mem_take hp)⟩
  rw [List.take_append, List.take_of_length_le hn]
theorem mark_valid {g pl : Nat} (h1 : 1 ≤ g) (h2 : g ≤ big) (h3 : pl ≤ big) : Valid ⟨4, g, pl, []⟩ := ⟨by simp, by simp, h1, h2, h3, Nat.zero_le _, (fun b hb => by cases hb), fun _ => rfl⟩
theorem mark_oct {g pl : Nat} (h1 : 1 ≤ g) (h2 : g ≤ big) (h3 : pl ≤ big) : Oct (mark g pl) := by
  have := enc_oct (qs := [⟨4, g, pl, []⟩]) (fun q hq => by rw [List.mem_singleton] at hq; subst hq; exact mark_valid h1 h2 h3)
  rw [enc_cons] at this
  intro b hb
  exact this b (List.mem_append.2 (.inl hb))
theorem enc_mark (ps : List Part) (g pl : Nat) : enc ps ++ mark g pl = enc (ps ++ [⟨4, g, pl, []⟩]) := by
  rw [enc_append]
  show _ = _ ++ (mark g pl ++ [])
  rw [List.append_nil]
theorem Gd.begins {g : Nat} {ps : List Part} (h : Gd g ps) : 1 ≤ g ∧ g ≤ big := by
  obtain ⟨l, T, rfl, hT⟩ := h.form
  have := h.valid ⟨1, g, 0, []⟩ (by simp [anew])
  exact ⟨this.g1, this.gb⟩
/-- What Open does to the present device. -/
theorem settle_ok {d : Dk} {P : List Part} {r : List Nat} {g : Nat} (h : Still d (enc P ++ r)) (hf : d.fuse = -1) (hG : Gd g P) (hb : (enc P).length ≤ big) :
    ∃ Q, (settle d g P (enc P).length).1 = 0 ∧ Still (settle d g P (enc P).length).2.2 (enc Q) ∧ (settle d g P (enc P).length).2.2.room = d.room ∧ (settle d g P (enc P).length).2.2.fuse = -1 ∧ Gd g Q ∧ Sealed Q ∧
      recs Q = recs (settle d g P (enc P).length).2.1 ∧ ((settle d g P (enc P).length).2.1 = P ∨ (P.getLast?.map Part.kind ≠ some 4 ∧ 0 < sealedN P ∧ (settle d g P (enc P).length).2.1 = P.take (sealedN P))) := by
  obtain ⟨hg1, hg2⟩ := hG.begins
  obtain ⟨c, hc⟩ : ∃ c : Int × Dk, c = if (enc P).length < (BlockMath.all d).size then cut (enc P).length d else (0, d) := ⟨_, rfl⟩
  have hc1 : c.1 = 0 ∧ Still c.2 (enc P) ∧ c.2.room = d.room ∧ c.2.fuse = -1 := by
    rw [hc]
    by_cases hl : (enc P).length < (BlockMath.all d).size
    · rw [if_pos hl]
      rcases cut_cases h (c := (enc P).length) (by rw [List.length_append]; omega) with ⟨e1, s1, r1, f1⟩ | ⟨_, _, f1⟩
      · rw [List.take_left' rfl] at s1
        exact ⟨e1, s1, r1, f1 hf⟩
      · exact absurd hf f1
    · rw [if_neg hl]
      have : r = [] := by
        rw [h.size, List.length_append] at hl
        exact List.eq_nil_of_length_eq_zero (by omega)
      subst this
      rw [List.append_nil] at h
      exact ⟨rfl, h, rfl, hf⟩
  unfold settle
  simp only []
  rw [← hc]
  obtain ⟨e1, s1, r1, f1⟩ := hc1
  rw [if_neg (by rw [e1]; simp)]
  by_cases hlast : P.getLast?.map Part.kind = some 4
  · rw [if_pos hlast]
    exact ⟨P, rfl, s1, r1, f1, hG, .inl hlast, rfl, .inl rfl⟩
  rw [if_neg hlast]
  have hmo : Oct (mark g (enc P ++ []).length) := mark_oct hg1 hg2 (by rw [List.append_nil]; exact hb)
  rcases marks_cases (gen := g) s1.off s1.done (show nats c.2.late = [] by rw [s1.late]; rfl) hmo with ⟨e2, s2, r2, f2⟩ | ⟨e2, s2, r2, f2, _⟩ | ⟨_, _, f2⟩
  · rw [if_pos (by rw [e2]; decide)]
    rw [List.append_nil, enc_mark] at s2
    refine ⟨_, e2, s2, by rw [r2, r1], f2 f1, hG.more (mark_tail g _) (fun p hp => by rw [List.mem_singleton] at hp; subst hp; exact mark_valid hg1 hg2 hb), .inl (by rw [getLast_append_ne (by simp)]; rfl), by rw [recs_append, recs_mark, List.append_nil], .inl rfl⟩
  · rw [if_neg (by rw [e2]; decide)]
    rw [List.append_nil] at s2
    by_cases h0 : sealedN P = 0
    · rw [if_pos h0]
      exact ⟨P, rfl, s2, by rw [r2, r1], f2 f1, hG, .inr (sealedN_zero h0), rfl, .inl rfl⟩
    · rw [if_neg h0]
      have hpl : placeOf P (sealedN P) ≤ (enc P).length := by
        unfold placeOf
        have : enc P = enc (P.take (sealedN P)) ++ enc (P.drop (sealedN P)) := by rw [← enc_append, List.take_append_drop]
        rw [this, List.length_append]
        omega
      rcases cut_cases s2 (c := placeOf P (sealedN P)) hpl with ⟨e3, s3, r3, f3⟩ | ⟨_, _, f3⟩
      · have htk : (enc P).take (placeOf P (sealedN P)) = enc (P.take (sealedN P)) := by
          have : enc P = enc (P.take (sealedN P)) ++ enc (P.drop (sealedN P)) := by rw [← enc_append, List.take_append_drop]
          unfold placeOf
          conv => lhs; rw [this]
          exact List.take_left' rfl
        rw [htk] at s3
        exact ⟨_, e3, s3, by rw [r3, r2, r1], f3 (f2 f1), hG.sealed (by omega), .inl (sealedN_mark (by omega)), rfl, .inr ⟨hlast, by omega, rfl⟩⟩
      · exact absurd (f2 f1) f3
  · exact absurd f1 f2
end JournalMath
namespace JournalMath
open TextNat BlockMath FrameMath
def pick (now : Bool) (a b : Dk) : Dk := if now then b else a
structure Live (j : Jn) (l : List (List Nat)) : Prop where
  cur : ∃ ps, Still j.cur (enc ps) ∧ Gd j.gen ps ∧ Sealed ps ∧ recs ps = l
  spare : ∃ y, Still j.spare y ∧ corrupt y = false ∧ (whole (partsOf y) = true → genOf (partsOf y) < j.gen)
  over : j.over = false
  oka : Ok j.a
  okb : Ok j.b
theorem ok_marks {d : Dk} (h : Ok d) (g : Nat) : Ok (marks d g).2 := by
  unfold marks
  split
  · exact h.sync
  · split
    · exact h.sync.append _
    · exact (h.sync.append _).sync
theorem ok_undo {r : Int × Dk} (h : Ok r.2) (c : Nat) : Ok (undo c r).2 := by
  unfold undo
  split
  · exact h.cut _
  · exact h
theorem ok_write {d : Dk} (h : Ok d) (g c : Nat) (t : List Nat) : Ok (write d g c t).2 := by
  unfold write
  refine ok_undo ?_ c
  split
  · exact ok_marks (h.append _) g
  · exact h.append _
theorem ok_settle {d : Dk} (h : Ok d) (g : Nat) (l : List Part) (e : Nat) : Ok (settle d g l e).2.2 := by
  obtain ⟨c, hc⟩ : ∃ c : Int × Dk, c = if e < (BlockMath.all d).size then cut e d else (0, d) := ⟨_, rfl⟩
  have h1 : Ok c.2 := by
    rw [hc]
    split
    · exact h.cut _
    · exact h
  unfold settle
  simp only []
  rw [← hc]
  split
  · exact h1
  · split
    · exact h1
    · split
      · exact ok_marks h1 g
      · split
        · exact ok_marks h1 g
        · exact (ok_marks h1 g).cut _
theorem Ok.len {d : Dk} {l : List Nat} (h : Ok d) (hs : Still d l) : l.length ≤ 1048576 := by
  rw [← hs.size, all_size]
  exact h.all
/-- What Open tells and leaves, where one device has a whole generation's parts with something behind them of which bytes are lost, and the other one nothing newer. -/
theorem reopen {a b : Dk} {now : Bool} {g : Nat} {ps qs : List Part} {r y : List Nat} (hx : Still (pick now a b) (enc ps ++ r)) (hL : Lossy r (enc qs)) (hq : ∀ q ∈ qs, Valid q) (hpl : ∀ q ∈ qs, q.place ≤ (enc ps).length)
    (hG : ∀ k, k ≤ qs.length → Gd g (ps ++ qs.take k)) (hy : Still (pick (!now) a b) y) (hyc : corrupt y = false) (hyg : whole (partsOf y) = true → genOf (partsOf y) < g) (fa : a.fuse = -1) (fb : b.fuse = -1) (oka : Ok a) (okb : Ok b) :
    ∃ k j m, k ≤ qs.length ∧ opened a b = (0, m, j) ∧ Live j m ∧ j.now = now ∧ j.gen = g ∧ j.a.fuse = -1 ∧ j.b.fuse = -1 ∧ j.a.room = a.room ∧ j.b.room = b.room ∧ j.spare = pick (!now) a b ∧
      (m = recs (ps ++ qs.take k) ∨ ((ps ++ qs.take k).getLast?.map Part.kind ≠ some 4 ∧ 0 < sealedN (ps ++ qs.take k) ∧ m = recs ((ps ++ qs.take k).take (sealedN (ps ++ qs.take k))))) := by
  have hps : ∀ p ∈ ps, Valid p := fun p hp => (hG 0 (Nat.zero_le _)).valid p (by simp [hp])
  obtain ⟨k, hk, h1, h2, h3, r', h4, _⟩ := look_lossy hps hq hpl hL
  have hGk := hG k hk
  obtain ⟨P, hP⟩ : ∃ P, P = ps ++ qs.take k := ⟨_, rfl⟩
  rw [← hP] at h1 h2 h4 hGk
  have hW := hGk.whole
  have hge := hGk.gen
  cases now with
  | false =>
    have hx1 : Still a (enc ps ++ r) := hx
    have hy1 : Still b y := hy
    have hb : (enc P).length ≤ big := by
      have := Ok.len oka hx1
      rw [h4, List.length_append] at this
      unfold big
      omega
    have hx2 : Still a (enc P ++ r') := by rw [← h4]; exact hx1
    obtain ⟨Q, q1, q2, q3, q4, q5, q6, q7, q8⟩ := settle_ok hx2 fa hGk hb
    have ho : opened a b = ((settle a g P (enc P).length).1, recs (settle a g P (enc P).length).2.1, ⟨(settle a g P (enc P).length).2.2, b, false, g, false⟩) := by
      unfold opened
      simp only [hx1.nats, hy1.nats, hx1.off, hy1.off, h1, h2, h3, hyc, hW, hge]
      rw [if_neg (by simp), if_neg (by simp), if_neg (by simp), if_neg]
      rintro (h5 | ⟨h5, h6⟩)
      · simp at h5
      · have := hyg (by simpa using h5)
        omega
    refine ⟨k, ⟨(settle a g P (enc P).length).2.2, b, false, g, false⟩, _, hk, by rw [ho, q1], ⟨⟨Q, q2, q5, q6, q7⟩, ⟨y, hy1, hyc, hyg⟩, rfl, ok_settle oka _ _ _, okb⟩, rfl, rfl, q4, fb, q3, rfl, rfl, ?_⟩
    rw [← hP]
    rcases q8 with h5 | ⟨h5, h6, h7⟩
    · exact .inl (by rw [h5])
    · exact .inr ⟨h5, h6, by rw [h7]⟩
  | true =>
    have hx1 : Still b (enc ps ++ r) := hx
    have hy1 : Still a y := hy
    have hb : (enc P).length ≤ big := by
      have := Ok.len okb hx1
      rw [h4, List.length_append] at this
      unfold big
      omega
    have hx2 : Still b (enc P ++ r') := by rw [← h4]; exact hx1
    obtain ⟨Q, q1, q2, q3, q4, q5, q6, q7, q8⟩ := settle_ok hx2 fb hGk hb
    have ho : opened a b = ((settle b g P (enc P).length).1, recs (settle b g P (enc P).length).2.1, ⟨a, (settle b g P (enc P).length).2.2, true, g, false⟩) := by
      unfold opened
      simp only [hx1.nats, hy1.nats, hx1.off, hy1.off, h1, h2, h3, hyc, hW, hge]
      rw [if_neg (by simp), if_neg (by simp), if_neg (by simp), if_pos]
      cases hyw : whole (partsOf y) with
      | false => left; rfl
      | true => right; exact ⟨rfl, hyg hyw⟩
    refine ⟨k, ⟨a, (settle b g P (enc P).length).2.2, true, g, false⟩, _, hk, by rw [ho, q1], ⟨⟨Q, q2, q5, q6, q7⟩, ⟨y, hy1, hyc, hyg⟩, rfl, oka, ok_settle okb _ _ _⟩, rfl, rfl, fa, q4, rfl, q3, rfl, ?_⟩
    rw [← hP]
    rcases q8 with h5 | ⟨h5, h6, h7⟩
    · exact .inl (by rw [h5])
    · exact .inr ⟨h5, h6, by rw [h7]⟩
end JournalMath
namespace JournalMath
open TextNat BlockMath FrameMath
/-- Behind any crash Open goes, and what it tells is as P says. -/
def After (j : Jn) (P : List (List Nat) → Prop) : Prop := ∀ (k1 k2 : Int) (m1 m2 : ByteArray), ∃ j' m, opened (crash k1 m1 j.a) (crash k2 m2 j.b) = (0, m, j') ∧ Live j' m ∧ P m ∧ j'.a.fuse = -1 ∧ j'.b.fuse = -1 ∧ j'.a.room = j.a.room ∧ j'.b.room = j.b.room
theorem pick_crash (j : Jn) (k1 k2 : Int) (m1 m2 : ByteArray) : (∃ k m, pick j.now (crash k1 m1 j.a) (crash k2 m2 j.b) = crash k m j.cur) ∧ ∃ k m, pick (!j.now) (crash k1 m1 j.a) (crash k2 m2 j.b) = crash k m j.spare := by
  unfold pick Jn.cur Jn.spare
  cases j.now with
  | false => exact ⟨⟨k1, m1, rfl⟩, ⟨k2, m2, rfl⟩⟩
  | true => exact ⟨⟨k2, m2, rfl⟩, ⟨k1, m1, rfl⟩⟩
def Tells (ps qs : List Part) (m : List (List Nat)) : Prop :=
  ∃ k, k ≤ qs.length ∧ (m = recs (ps ++ qs.take k) ∨ ((ps ++ qs.take k).getLast?.map Part.kind ≠ some 4 ∧ 0 < sealedN (ps ++ qs.take k) ∧ m = recs ((ps ++ qs.take k).take (sealedN (ps ++ qs.take k)))))
theorem after_cur {j : Jn} {g : Nat} {ps qs : List Part} {r0 y : List Nat} {P : List (List Nat) → Prop} (hd : nats j.cur.done = enc ps) (hr : nats j.cur.late = r0) (hr0 : ∀ r, Lossy r r0 → Lossy r (enc qs))
    (hq : ∀ q ∈ qs, Valid q) (hpl : ∀ q ∈ qs, q.place ≤ (enc ps).length) (hG : ∀ k, k ≤ qs.length → Gd g (ps ++ qs.take k))
    (hy : nats j.spare.done = y) (hyl : nats j.spare.late = []) (hyc : corrupt y = false) (hyg : whole (partsOf y) = true → genOf (partsOf y) < g) (oka : Ok j.a) (okb : Ok j.b) (hP : ∀ m, Tells ps qs m → P m) : After j P := by
  intro k1 k2 m1 m2
  obtain ⟨⟨k, m, e1⟩, ⟨k', m', e2⟩⟩ := pick_crash j k1 k2 m1 m2
  obtain ⟨r, h1, h2, _, _⟩ := crash_still hd hr k m
  obtain ⟨r', h3, h4, _, _⟩ := crash_still hy hyl k' m'
  rw [lossy_of_nil h3, List.append_nil] at h4
  obtain ⟨k, j', m, q0, q1, q2, _, _, q5, q6, q7, q8, _, q10⟩ := reopen (a := crash k1 m1 j.a) (b := crash k2 m2 j.b) (now := j.now) (by rw [e1]; exact h2) (hr0 r h1) hq hpl hG (by rw [e2]; exact h4) hyc hyg rfl rfl (oka.crash _ _) (okb.crash _ _)
  exact ⟨j', m, q1, q2, hP m ⟨k, q0, q10⟩, q5, q6, q7, q8⟩
theorem Gd.self {g : Nat} {ps : List Part} (h : Gd g ps) : ∀ k, k ≤ ([] : List Part).length → Gd g (ps ++ ([] : List Part).take k) := fun k _ => by rw [List.take_nil, List.append_nil]; exact h
theorem tells_self {ps : List Part} {m : List (List Nat)} (hs : Sealed ps) (h : Tells ps [] m) : m = recs ps := by
  obtain ⟨k, hk, h1⟩ := h
  rw [List.take_nil, List.append_nil] at h1
  rcases h1 with h1 | ⟨h1, h2, h3⟩
  · exact h1
  · rcases hs with h4 | h4
    · exact absurd h4 h1
    · rw [sealedN_none h4] at h2
      cases h2
/-- A journal that lives tells what it has behind any crash. -/
theorem Live.after {j : Jn} {l : List (List Nat)} (h : Live j l) : After j fun m => m = l := by
  obtain ⟨ps, h1, h2, h3, h4⟩ := h.cur
  obtain ⟨y, h5, h6, h7⟩ := h.spare
  exact after_cur (qs := []) h1.done (show nats j.cur.late = [] by rw [h1.late]; rfl) (fun r hr => by rw [lossy_of_nil hr]; exact lossy_nil _) (fun q hq => by cases hq) (fun q hq => by cases hq) h2.self h5.done (by rw [h5.late]; rfl) h6 h7 h.oka h.okb
    fun m hm => by rw [tells_self h3 hm, h4]
theorem Jn.cur_setCur (j : Jn) (d : Dk) : (j.setCur d).cur = d := by unfold Jn.setCur Jn.cur; cases j.now <;> rfl
theorem Jn.spare_setCur (j : Jn) (d : Dk) : (j.setCur d).spare = j.spare := by unfold Jn.setCur Jn.spare; cases j.now <;> rfl
theorem Jn.cur_setSpare (j : Jn) (d : Dk) : (j.setSpare d).cur = j.cur := by unfold Jn.setSpare Jn.cur; cases j.now <;> rfl
theorem Jn.spare_setSpare (j : Jn) (d : Dk) : (j.setSpare d).spare = d := by unfold Jn.setSpare Jn.spare; cases j.now <;> rfl
theorem Jn.set_rest (j : Jn) (d : Dk) : (j.setCur d).now = j.now ∧ (j.setCur d).gen = j.gen ∧ (j.setCur d).over = j.over ∧ (j.setSpare d).now = j.now ∧ (j.setSpare d).gen = j.gen ∧ (j.setSpare d).over = j.over := by
  unfold Jn.setCur Jn.setSpare
  cases h : j.now <;> simp
theorem Jn.ok_setCur {j : Jn} {d : Dk} (ha : Ok j.a) (hb : Ok j.b) (hd : Ok d) : Ok (j.setCur d).a ∧ Ok (j.setCur d).b := by
  unfold Jn.setCur
  cases j.now with
  | false => exact ⟨hd, hb⟩
  | true => exact ⟨ha, hd⟩
theorem Jn.ok_setSpare {j : Jn} {d : Dk} (ha : Ok j.a) (hb : Ok j.b) (hd : Ok d) : Ok (j.setSpare d).a ∧ Ok (j.setSpare d).b := by
  unfold Jn.setSpare
  cases j.now with
  | false => exact ⟨ha, hd⟩
  | true => exact ⟨hd, hb⟩
theorem Live.okc {j : Jn} {l : List (List Nat)} (h : Live j l) : Ok j.cur ∧ Ok j.spare := by
  unfold Jn.cur Jn.spare
  cases j.now with
  | false => exact ⟨h.oka, h.okb⟩
  | true => exact ⟨h.okb, h.oka⟩
/-- The rooms are as they were, and where there was no fuse there is none. -/
structure Kept (j j' : Jn) : Prop where
  ra : j'.a.room = j.a.room
  rb : j'.b.room = j.b.room
  fa : j.a.fuse = -1 → j'.a.fuse = -1
  fb : j.b.fuse = -1 → j'.b.fuse = -1
theorem Kept.setCur {j : Jn} {d : Dk} (hr : d.room = j.cur.room) (hf : j.cur.fuse = -1 → d.fuse = -1) : Kept j (j.setCur d) := by
  unfold Jn.cur at hr hf
  unfold Jn.setCur
  cases h : j.now with
  | false =>
    rw [h] at hr hf
    exact ⟨hr, rfl, hf, fun h => h⟩
  | true =>
    rw [h] at hr hf
    exact ⟨rfl, hr, fun h => h, hf⟩
theorem Kept.setSpare {j : Jn} {d : Dk} (hr : d.room = j.spare.room) (hf : j.spare.fuse = -1 → d.fuse = -1) : Kept j (j.setSpare d) := by
  unfold Jn.spare at hr hf
  unfold Jn.setSpare
  cases h : j.now with
  | false =>
    rw [h] at hr hf
    exact ⟨rfl, hr, fun h => h, hf⟩
  | true =>
    rw [h] at hr hf
    exact ⟨hr, rfl, hf, fun h => h⟩
theorem Kept.ends {j k : Jn} (h : Kept j k) (e : Int) : Kept j (k.ends e) := ⟨h.ra, h.rb, h.fa, h.fb⟩
theorem sync_room (d : Dk) : (sync d).2.room = d.room := by
  unfold sync
  split <;> exact doesD_room d
theorem append_room (t : ByteArray) (d : Dk) : (append t d).2.room = d.room := by
  unfold append
  split
  · rfl
  · split <;> exact doesD_room d
theorem cut_room (c : Int) (d : Dk) : (cut c d).2.room = d.room := by
  unfold cut
  split
  · rfl
  · split
    · show (cutD _ (doesD d)).room = _
      unfold cutD
      split <;> exact doesD_room d
    · exact doesD_room d
theorem marks_room (d : Dk) (g : Nat) : (marks d g).2.room = d.room := by
  unfold marks
  split
  · exact sync_room d
  · split
    · rw [append_room, sync_room]
    · rw [sync_room, append_room, sync_room]
theorem undo_room (c : Nat) (r : Int × Dk) : (undo c r).2.room = r.2.room := by
  unfold undo
  split
  · exact cut_room _ _
  · rfl
theorem write_room (d : Dk) (g c : Nat) (t : List Nat) : (write d g c t).2.room = d.room := by
  unfold write
  rw [undo_room]
  split
  · rw [marks_room, append_room]
  · exact append_room _ _
theorem records_valid {g pl : Nat} {l : List (List Nat)} (h1 : 1 ≤ g) (h2 : g ≤ big) (h3 : pl ≤ big) (hl : long l = false) (hb : ∀ t ∈ l, Oct t) : ∀ p ∈ recordsP g pl l, Valid p := by
  intro p hp
  unfold recordsP at hp
  obtain ⟨t, ht, rfl⟩ := List.mem_map.1 hp
  have hlen : t.length ≤ 4096 := by
    rcases Nat.lt_or_ge 4096 t.length with h | h
    · exfalso
      have : long l = true := by unfold long; rw [List.any_eq_true]; exact ⟨t, ht, by simpa using h⟩
      rw [hl] at this
      cases this
    · exact h
  exact ⟨by simp, by simp, h1, h2, h3, hlen, hb t ht, fun h => absurd rfl h⟩
theorem records_room {g pl : Nat} {l : List (List Nat)} : ∀ q ∈ recordsP g pl l, q.place = pl := by
  intro q hq
  unfold recordsP at hq
  obtain ⟨t, _, rfl⟩ := List.mem_map.1 hq
  rfl
theorem enc_le : ∀ {ps : List Part}, (∀ p ∈ ps, Valid p) → (enc ps).length ≤ 16405 * ps.length
  | [], _ => Nat.le_refl _
  | p :: ps, h => by
    have ih := enc_le (ps := ps) fun q hq => h q (by simp [hq])
    have := (h p (by simp)).len
    have hs : (sealP p).length = 21 + 2 * (payload p).length := framed_len _
    rw [enc_cons, List.length_append, List.length_cons]
    omega
theorem payload_le (p : Part) : (payload p).length ≤ 36 + p.text.length := by
  unfold payload
  rw [List.length_append, List.length_append, List.length_append, List.length_append]
  have := WireMath.num_len p.kind
  have := WireMath.num_len p.gen
  have := WireMath.num_len p.place
  have := WireMath.num_len p.text.length
  omega
theorem mark_len (g pl : Nat) : (mark g pl).length ≤ 93 := by
  have h := payload_le ⟨4, g, pl, []⟩
  have e : (mark g pl).length = 21 + 2 * (payload ⟨4, g, pl, []⟩).length := framed_len _
  simp at h
  omega
def total (l : List (List Nat)) : Nat := (l.map List.length).sum
theorem records_len (g pl : Nat) : ∀ l : List (List Nat), (enc (recordsP g pl l)).length ≤ 93 * l.length + 2 * total l
  | [] => Nat.le_refl _
  | t :: l => by
    have ih := records_len g pl l
    have h := payload_le ⟨2, g, pl, t⟩
    have e : (sealP ⟨2, g, pl, t⟩).length = 21 + 2 * (payload ⟨2, g, pl, t⟩).length := framed_len _
    have hx : enc (recordsP g pl (t :: l)) = sealP ⟨2, g, pl, t⟩ ++ enc (recordsP g pl l) := rfl
    have ht : total (t :: l) = t.length + total l := by unfold total; rw [List.map_cons, List.sum_cons]
    rw [hx, List.length_append, ht, List.length_cons]
    simp at h
    omega
/-- The last part is a Mark that says where it stands. -/
def Marked (j : Jn) : Prop := ∃ ps, Still j.cur (enc (ps ++ [⟨4, j.gen, (enc ps).length, []⟩])) ∧ Gd j.gen ps
/-- What Put does to a journal that lives. -/
theorem put_step {j : Jn} {l have_ : List (List Nat)} (h : Live j have_) (hb : ∀ t ∈ l, Oct t) :
    ((put l j).1 = 0 ∧ Live (put l j).2 (have_ ++ l) ∧ Kept j (put l j).2 ∧ (put l j).2.gen = j.gen ∧ (put l j).2.now = j.now ∧ (Marked j → Marked (put l j).2)) ∨
    ((put l j).1 = 3 ∧ (put l j).2 = j ∧ (400 < l.length ∨ long l = true)) ∨
    ((put l j).1 = 4 ∧ Live (put l j).2 have_ ∧ Kept j (put l j).2 ∧ (put l j).2.gen = j.gen ∧ (put l j).2.now = j.now ∧ ∀ x, Still j.cur x → Still (put l j).2.cur x ∧ j.cur.room < ((x.length + 93 * l.length + 2 * total l + 93 : Nat) : Int)) ∨
    ((put l j).1 = 5 ∧ After (put l j).2 (fun m => ∃ k, m = have_ ++ l.take k) ∧ j.cur.fuse ≠ -1 ∧ (put l j).2.a.room = j.a.room ∧ (put l j).2.b.room = j.b.room) := by
  obtain ⟨ps, h1, h2, h3, h4⟩ := h.cur
  obtain ⟨y, h5, h6, h7⟩ := h.spare
  obtain ⟨g1, g2⟩ := h2.begins
  have hlen := Ok.len h.okc.1 h1
  unfold put
  rw [if_neg (by rw [h.over]; simp)]
  by_cases hl0 : l.length = 0
  · left
    rw [if_pos hl0]
    have : l = [] := List.eq_nil_of_length_eq_zero hl0
    subst this
    rw [List.append_nil]
    exact ⟨rfl, h, ⟨rfl, rfl, fun h => h, fun h => h⟩, rfl, rfl, fun h => h⟩
  rw [if_neg hl0]
  by_cases hlong : 400 < l.length ∨ long l = true
  · right
    left
    rw [if_pos hlong]
    exact ⟨rfl, rfl, hlong⟩
  rw [if_neg hlong, h1.size, h1.dsize]
  have hll : long l = false := by cases hq : long l with | false => rfl | true => exact absurd (.inr hq) hlong
  obtain ⟨X, hX⟩ : ∃ X, X = recordsP j.gen (enc ps).length l := ⟨_, rfl⟩
  have hXv : ∀ p ∈ X, Valid p := by rw [hX]; exact records_valid g1 g2 (by unfold big; omega) hll hb
  have hXt : Tail j.gen X := by rw [hX]; exact recordsP_tail _ _ _
  have hXp : ∀ q ∈ X, q.place = (enc ps).length := by rw [hX]; exact records_room
  have hXr : recs X = l := by rw [hX]; exact recs_recordsP _ _ _
  have hXm : ∀ p ∈ X, p.kind ≠ 4 := by rw [hX]; exact recordsP_no_mark _ _ _
  have hXk : ∀ k, recs (X.take k) = l.take k := fun k => by rw [hX, recordsP_take, recs_recordsP]
  rw [← hX]
  have hG2 := h2.more hXt hXv
  obtain ⟨W, hW⟩ : ∃ W, W = write j.cur j.gen (enc ps).length (enc X) := ⟨_, rfl⟩
  rw [← hW]
  have hWo : Ok W.2 := by rw [hW]; exact ok_write h.okc.1 _ _ _
  have hXl : X.length ≤ 400 := by
    rw [hX]
    unfold recordsP
    rw [List.length_map]
    omega
  have hmo : Oct (mark j.gen (enc ps ++ enc X).length) := mark_oct g1 g2 (by have := enc_le hXv; rw [List.length_append]; unfold big; omega)
  have hAf : ∀ r, nats W.2.done = enc ps → nats W.2.late = r → (r = [] ∨ r = enc X) → ∀ e, After ((j.setCur W.2).ends e) (fun m => ∃ k, m = have_ ++ l.take k) := by
    intro r hd hlt hr e
    have hok := Jn.ok_setCur h.oka h.okb hWo
    refine after_cur (g := j.gen) (ps := ps) (qs := X) (r0 := r) (y := y) (by show nats (j.setCur W.2).cur.done = _; rw [Jn.cur_setCur, hd]) (by show nats (j.setCur W.2).cur.late = _; rw [Jn.cur_setCur, hlt]) ?_ hXv (fun q hq => by rw [hXp q hq]; exact Nat.le_refl _) (fun k _ => h2.more (fun p hp => hXt p (List.mem_of_mem_take hp)) (fun p hp => hXv p (List.mem_of_mem_take hp)))
      (by show nats (j.setCur W.2).spare.done = _; rw [Jn.spare_setCur, h5.done]) (by show nats (j.setCur W.2).spare.late = _; rw [Jn.spare_setCur, h5.late]; rfl) h6 h7 hok.1 hok.2 ?_
    · intro r' hl
      rcases hr with rfl | rfl
      · rw [lossy_of_nil hl]
        exact lossy_nil _
      · exact hl
    · rintro m ⟨k, hk, hm | ⟨hm1, hm2, hm3⟩⟩
      · exact ⟨k, by rw [hm, recs_append, h4, hXk]⟩
      · rw [sealedN_append (fun p hp => hXm p (List.mem_of_mem_take hp))] at hm2 hm3
        rcases h3 with h8 | h8
        · rw [sealedN_last h8, List.take_left' rfl] at hm3
          exact ⟨0, by rw [hm3, h4, List.take_zero, List.append_nil]⟩
        · rw [sealedN_none h8] at hm2
          cases hm2
  have hrm : W.2.room = j.cur.room → (((j.setCur W.2).ends W.1).a.room = j.a.room ∧ ((j.setCur W.2).ends W.1).b.room = j.b.room) := by
    intro hr
    show (j.setCur W.2).a.room = j.a.room ∧ (j.setCur W.2).b.room = j.b.room
    unfold Jn.cur at hr
    unfold Jn.setCur
    cases hn : j.now with
    | false => rw [hn] at hr; exact ⟨hr, rfl⟩
    | true => rw [hn] at hr; exact ⟨rfl, hr⟩
  have hrest := Jn.set_rest j W.2
  have hok := Jn.ok_setCur h.oka h.okb hWo
  rcases write_cases (gen := j.gen) (c := (enc ps).length) h1 (enc_oct hXv) hmo (Nat.le_refl _) with ⟨e1, s1, r1, hroom, f1⟩ | ⟨e1, s1, r1, f1, q1⟩ | ⟨e1, ⟨r, s1⟩, f1⟩
  all_goals rw [← hW] at e1 s1
  · left
    rw [← hW] at r1 f1
    have hk := Kept.setCur r1 f1
    have hpl : (enc (ps ++ X)).length ≤ big := by
      have := h.okc.1.room1
      rw [enc_append, List.length_append]
      unfold big
      omega
    rw [← enc_append, enc_mark] at s1
    refine ⟨e1, ⟨⟨(ps ++ X) ++ [⟨4, j.gen, (enc (ps ++ X)).length, []⟩], ?_, ?_, ?_, ?_⟩, ⟨y, ?_, h6, ?_⟩, ?_, hok.1, hok.2⟩, hk.ends _, hrest.2.1, hrest.1, fun _ => ?_⟩
    · show Still (j.setCur W.2).cur _
      rw [Jn.cur_setCur]
      exact s1
    · show Gd (j.setCur W.2).gen _
      rw [hrest.2.1]
      exact hG2.more (mark_tail _ _) fun p hp => by rw [List.mem_singleton] at hp; subst hp; exact mark_valid g1 g2 hpl
    · left
      rw [getLast_append_ne (by simp)]
      rfl
    · rw [recs_append, recs_mark, List.append_nil, recs_append, h4, hXr]
    · show Still (j.setCur W.2).spare _
      rw [Jn.spare_setCur]
      exact h5
    · show _ → _ < (j.setCur W.2).gen
      rw [hrest.2.1]
      exact h7
    · show ((j.setCur W.2).over || _) = false
      rw [hrest.2.2.1, h.over, e1]
      rfl
    · show ∃ ps', Still (j.setCur W.2).cur (enc (ps' ++ [⟨4, (j.setCur W.2).gen, (enc ps').length, []⟩])) ∧ Gd (j.setCur W.2).gen ps'
      rw [Jn.cur_setCur, hrest.2.1]
      exact ⟨ps ++ X, s1, hG2⟩
  · right
    right
    left
    rw [← hW] at r1 f1
    have hk := Kept.setCur r1 f1
    rw [List.take_length] at s1
    have hov : ((j.setCur W.2).over || (decide (W.1 ≠ 0) && decide (W.1 ≠ 4))) = false := by
      rw [hrest.2.2.1, h.over, e1]
      rfl
    refine ⟨e1, ⟨⟨ps, ?_, ?_, h3, h4⟩, ⟨y, ?_, h6, ?_⟩, hov, hok.1, hok.2⟩, hk.ends _, hrest.2.1, hrest.1, fun x hx => ?_⟩
    · show Still (j.setCur W.2).cur _
      rw [Jn.cur_setCur]
      exact s1
    · show Gd (j.setCur W.2).gen _
      rw [hrest.2.1]
      exact h2
    · show Still (j.setCur W.2).spare _
      rw [Jn.spare_setCur]
      exact h5
    · show _ → _ < (j.setCur W.2).gen
      rw [hrest.2.1]
      exact h7
    · have : x = enc ps := by rw [← hx.done, h1.done]
      rw [this]
      refine ⟨by show Still (j.setCur W.2).cur _; rw [Jn.cur_setCur]; exact s1, ?_⟩
      have h8 := mark_len j.gen (enc ps ++ enc X).length
      have h9 := records_len j.gen (enc ps).length l
      rw [← hX] at h9
      rw [List.length_append] at q1 h8
      omega
  · right
    right
    right
    have hroom := write_room j.cur j.gen (enc ps).length (enc X)
    rw [← hW] at hroom
    obtain ⟨ra, rb⟩ := hrm hroom
    refine ⟨e1, ?_, f1, ra, rb⟩
    rcases s1 with ⟨sd, hr⟩ | ⟨sd, hr, hrm2⟩
    · exact hAf r sd.done sd.late (hr.imp id And.left) W.1
    · refine after_cur (g := j.gen) (ps := ps ++ X) (qs := [⟨4, j.gen, (enc (ps ++ X)).length, []⟩]) (r0 := r) (y := y) (by show nats (j.setCur W.2).cur.done = _; rw [Jn.cur_setCur, sd.done, enc_append]) (by show nats (j.setCur W.2).cur.late = _; rw [Jn.cur_setCur, sd.late]) ?_ ?_ (fun q hq => by rw [List.mem_singleton] at hq; subst hq; exact Nat.le_refl _) ?_
        (by show nats (j.setCur W.2).spare.done = _; rw [Jn.spare_setCur, h5.done]) (by show nats (j.setCur W.2).spare.late = _; rw [Jn.spare_setCur, h5.late]; rfl) h6 h7 hok.1 hok.2 ?_
      · intro r' hl
        rcases hr with rfl | rfl
        · rw [lossy_of_nil hl]
          exact lossy_nil _
        · rw [enc_cons]
          show Lossy r' (mark j.gen (enc (ps ++ X)).length ++ [])
          rw [List.append_nil, enc_append]
          exact hl
      · intro q hq
        rw [List.mem_singleton] at hq
        subst hq
        refine mark_valid g1 g2 ?_
        have := enc_le hXv
        rw [enc_append, List.length_append]
        unfold big
        omega
      · intro k _
        refine hG2.more (fun p hp => mark_tail _ _ p (List.mem_of_mem_take hp)) fun p hp => ?_
        have hp := List.mem_of_mem_take hp
        rw [List.mem_singleton] at hp
        subst hp
        refine mark_valid g1 g2 ?_
        have := enc_le hXv
        rw [enc_append, List.length_append]
        unfold big
        omega
      · rintro m ⟨k, hk, hm⟩
        match k, hk with
        | 0, _ =>
          rw [List.take_zero, List.append_nil] at hm
          rcases hm with hm | ⟨hm1, hm2, hm3⟩
          · exact ⟨l.length, by rw [hm, recs_append, h4, hXr, List.take_length]⟩
          · rw [sealedN_append hXm] at hm2 hm3
            rcases h3 with h8 | h8
            · rw [sealedN_last h8, List.take_left' rfl] at hm3
              exact ⟨0, by rw [hm3, h4, List.take_zero, List.append_nil]⟩
            · rw [sealedN_none h8] at hm2
              cases hm2
        | 1, _ =>
          rcases hm with hm | ⟨hm1, _, _⟩
          · refine ⟨l.length, ?_⟩
            · rw [hm, List.take_length]
              show recs ((ps ++ X) ++ ([⟨4, j.gen, (enc (ps ++ X)).length, []⟩] : List Part)) = _
              rw [recs_append, recs_mark, List.append_nil, recs_append, h4, hXr]
          · exfalso
            apply hm1
            show Option.map Part.kind ((ps ++ X) ++ ([⟨4, j.gen, (enc (ps ++ X)).length, []⟩] : List Part)).getLast? = some 4
            rw [getLast_append_ne (by simp)]
            rfl
        | k + 2, hk => simp at hk
end JournalMath
namespace JournalMath
open TextNat BlockMath FrameMath
/-- What parts alone tell. -/
theorem look_enc {ps : List Part} (hp : ∀ p ∈ ps, Valid p) : partsOf (enc ps) = ps ∧ endOf (enc ps) = (enc ps).length ∧ corrupt (enc ps) = false := by
  obtain ⟨k, _, h1, h2, h3, _⟩ := look_lossy (qs := []) hp (fun q hq => by cases hq) (fun q hq => by cases hq) (lossy_nil _)
  rw [List.take_nil, List.append_nil, List.append_nil] at h1 h2
  rw [List.append_nil] at h3
  exact ⟨h1, h2, h3⟩
theorem anew_valid {g : Nat} {l : List (List Nat)} (h1 : 1 ≤ g) (h2 : g ≤ big) (hl : long l = false) (hb : ∀ t ∈ l, Oct t) : ∀ p ∈ anew g l, Valid p := by
  intro p hp
  unfold anew at hp
  rcases List.mem_cons.1 hp with rfl | hp
  · exact ⟨by simp, by simp, h1, h2, Nat.zero_le _, Nat.zero_le _, (fun b hb => by cases hb), fun _ => rfl⟩
  · rcases List.mem_append.1 hp with hp | hp
    · exact records_valid h1 h2 (Nat.zero_le _) hl hb p hp
    · rw [List.mem_singleton] at hp
      subst hp
      exact ⟨by simp, by simp, h1, h2, Nat.zero_le _, Nat.zero_le _, (fun b hb => by cases hb), fun _ => rfl⟩
theorem anew_place {g : Nat} {l : List (List Nat)} : ∀ p ∈ anew g l, p.place = 0 := by
  intro p hp
  unfold anew at hp
  rcases List.mem_cons.1 hp with rfl | hp
  · rfl
  · rcases List.mem_append.1 hp with hp | hp
    · exact records_room p hp
    · rw [List.mem_singleton] at hp
      subst hp
      rfl
theorem anew_len (g : Nat) (l : List (List Nat)) : (anew g l).length = l.length + 2 := by
  unfold anew recordsP
  rw [List.length_cons, List.length_append, List.length_map, List.length_singleton]
theorem anew_bytes (g : Nat) (l : List (List Nat)) : (enc (anew g l)).length ≤ 93 * l.length + 2 * total l + 186 := by
  have h := records_len g 0 l
  have h1 := payload_le ⟨1, g, 0, []⟩
  have e1 : (sealP ⟨1, g, 0, []⟩).length = 21 + 2 * (payload ⟨1, g, 0, []⟩).length := framed_len _
  have h3 := payload_le ⟨3, g, 0, []⟩
  have e3 : (sealP ⟨3, g, 0, []⟩).length = 21 + 2 * (payload ⟨3, g, 0, []⟩).length := framed_len _
  have e : enc (anew g l) = sealP ⟨1, g, 0, []⟩ ++ (enc (recordsP g 0 l) ++ (sealP ⟨3, g, 0, []⟩ ++ [])) := by
    unfold anew
    rw [enc_cons, enc_append]
    rfl
  rw [e, List.append_nil, List.length_append, List.length_append]
  simp at h1 h3
  omega
theorem anew_good {g : Nat} {l : List (List Nat)} (hv : ∀ p ∈ anew g l, Valid p) : Gd g (anew g l) := ⟨hv, l, [], by rw [List.append_nil], fun p hp => by cases hp⟩
/-- The one that was spare is present now. -/
def Jn.flip (j : Jn) (d : Dk) (g : Nat) : Jn := { j.setSpare d with now := !j.now, gen := g }
theorem Jn.flip_is (j : Jn) (d : Dk) (g : Nat) : (j.flip d g).cur = d ∧ (j.flip d g).spare = j.cur ∧ (j.flip d g).gen = g ∧ (j.flip d g).now = (!j.now) ∧ (j.flip d g).over = j.over ∧ (j.flip d g).a = (j.setSpare d).a ∧ (j.flip d g).b = (j.setSpare d).b := by
  unfold Jn.flip Jn.cur Jn.spare Jn.setSpare
  cases j.now <;> simp
/-- Behind a crash the other device's parts are what Open tells, or the present one's, as the other's are whole or not. -/
theorem after_anew {j : Jn} {g : Nat} {l h0 : List (List Nat)} {ps : List Part} {r : List Nat} (hc : Still j.cur (enc ps)) (hG : Gd g ps) (hs : Sealed ps) (hr : recs ps = h0) (hA : ∀ p ∈ anew (g + 1) l, Valid p)
    (oka : Ok j.a) (okb : Ok j.b) (hd : (nats j.spare.done = [] ∧ nats j.spare.late = r ∧ (r = [] ∨ r = enc (anew (g + 1) l))) ∨
      (nats j.spare.done = enc (anew (g + 1) l) ∧ nats j.spare.late = r ∧ (r = [] ∨ r = mark (g + 1) (enc (anew (g + 1) l)).length) ∧ (enc (anew (g + 1) l)).length ≤ big)) :
    After j fun m => m = h0 ∨ m = l := by
  have hAG := anew_good hA
  obtain ⟨g1, g2⟩ := hAG.begins
  obtain ⟨l1, l2, l3⟩ := look_enc hG.valid
  have hold : whole (partsOf (enc ps)) = true → genOf (partsOf (enc ps)) < g + 1 := fun _ => by rw [l1, hG.gen]; omega
  have hnew : ∀ {k1 k2 : Int} {m1 m2 : ByteArray} {qs : List Part} {r' : List Nat}, Still (pick (!j.now) (crash k1 m1 j.a) (crash k2 m2 j.b)) (enc (anew (g + 1) l) ++ r') → Still (pick j.now (crash k1 m1 j.a) (crash k2 m2 j.b)) (enc ps) → Lossy r' (enc qs) →
      (qs = [] ∨ qs = [⟨4, g + 1, (enc (anew (g + 1) l)).length, []⟩] ∧ (enc (anew (g + 1) l)).length ≤ big) → ∃ j' m, opened (crash k1 m1 j.a) (crash k2 m2 j.b) = (0, m, j') ∧ Live j' m ∧ (m = h0 ∨ m = l) ∧ j'.a.fuse = -1 ∧ j'.b.fuse = -1 ∧ j'.a.room = j.a.room ∧ j'.b.room = j.b.room := by
    intro k1 k2 m1 m2 qs r' hx hy hL hqs
    have hqv : ∀ q ∈ qs, Valid q := by
      intro q hq
      rcases hqs with rfl | ⟨rfl, hb⟩
      · cases hq
      · rw [List.mem_singleton] at hq
        subst hq
        exact mark_valid g1 g2 hb
    have hqp : ∀ q ∈ qs, q.place ≤ (enc (anew (g + 1) l)).length := by
      intro q hq
      rcases hqs with rfl | ⟨rfl, hb⟩
      · cases hq
      · rw [List.mem_singleton] at hq
        subst hq
        exact Nat.le_refl _
    have hqt : Tail (g + 1) qs := by
      rcases hqs with rfl | ⟨rfl, hb⟩
      · intro p hp
        cases hp
      · exact mark_tail _ _
    obtain ⟨k, j', m, q0, q1, q2, _, _, q5, q6, q7, q8, _, q10⟩ := reopen (a := crash k1 m1 j.a) (b := crash k2 m2 j.b) (now := !j.now) (g := g + 1) (ps := anew (g + 1) l) (qs := qs) hx hL hqv hqp (fun k _ => hAG.more (fun p hp => hqt p (List.mem_of_mem_take hp)) (fun p hp => hqv p (List.mem_of_mem_take hp)))
      (by rw [Bool.not_not]; exact hy) l3 hold rfl rfl (oka.crash _ _) (okb.crash _ _)
    refine ⟨j', m, q1, q2, .inr ?_, q5, q6, q7, q8⟩
    have hre : ∀ k, recs (qs.take k) = [] := by
      intro k
      rcases hqs with rfl | ⟨rfl, _⟩
      · rw [List.take_nil]
        rfl
      · match k with
        | 0 => rfl
        | k + 1 => rw [List.take_succ_cons, List.take_nil]; rfl
    rcases q10 with hm | ⟨hm1, hm2, hm3⟩
    · rw [hm, recs_append, recs_anew, hre, List.append_nil]
    · exfalso
      have hk0 : qs.take k = [] := by
        rcases hqs with rfl | ⟨rfl, _⟩
        · rw [List.take_nil]
        · match k with
          | 0 => rfl
          | k + 1 =>
            exfalso
            apply hm1
            rw [List.take_succ_cons, List.take_nil, getLast_append_ne (by simp)]
            rfl
      rw [hk0, List.append_nil, sealedN_none (anew_no_mark _ _)] at hm2
      cases hm2
  intro k1 k2 m1 m2
  obtain ⟨⟨k, m, e1⟩, ⟨k', m', e2⟩⟩ := pick_crash j k1 k2 m1 m2
  obtain ⟨r1, c1, c2, _, _⟩ := crash_still hc.done (show nats j.cur.late = [] by rw [hc.late]; rfl) k m
  rw [lossy_of_nil c1, List.append_nil, ← e1] at c2
  rcases hd with ⟨d1, d2, d3⟩ | ⟨d1, d2, d3, d4⟩
  · obtain ⟨r2, c3, c4, _, _⟩ := crash_still d1 d2 k' m'
    rw [List.nil_append, ← e2] at c4
    have hL : Lossy r2 (enc (anew (g + 1) l)) := by
      rcases d3 with rfl | rfl
      · rw [lossy_of_nil c3]
        exact lossy_nil _
      · exact c3
    obtain ⟨i, hi, p1, p2, p3, r3, p4, p5⟩ := look_lossy (ps := []) (qs := anew (g + 1) l) (fun p hp => by cases hp) hA (fun q hq => by rw [anew_place q hq]; exact Nat.zero_le _) hL
    have p1' : partsOf r2 = (anew (g + 1) l).take i := p1
    have p3' : corrupt r2 = false := p3
    have p4' : r2 = enc ((anew (g + 1) l).take i) ++ r3 := p4
    by_cases hil : i < (anew (g + 1) l).length
    · obtain ⟨k, j', m, q0, q1, q2, _, _, q5, q6, q7, q8, _, q10⟩ := reopen (a := crash k1 m1 j.a) (b := crash k2 m2 j.b) (now := j.now) (g := g) (ps := ps) (qs := []) (r := []) (by rw [List.append_nil]; exact c2) (lossy_nil _) (fun q hq => by cases hq) (fun q hq => by cases hq) hG.self c4 p3'
        (fun hw => by rw [p1', whole_part _ _ hil] at hw; cases hw) rfl rfl (oka.crash _ _) (okb.crash _ _)
      exact ⟨j', m, q1, q2, .inl (by rw [tells_self hs ⟨k, q0, q10⟩, hr]), q5, q6, q7, q8⟩
    · have hie : i = (anew (g + 1) l).length := by omega
      rw [p5 hie, List.append_nil, hie, List.take_length] at p4'
      rw [p4'] at c4
      exact hnew (qs := []) (r' := []) (by rw [List.append_nil]; exact c4) c2 (lossy_nil _) (.inl rfl)
  · obtain ⟨r2, c3, c4, _, _⟩ := crash_still d1 d2 k' m'
    rw [← e2] at c4
    refine hnew (qs := [⟨4, g + 1, (enc (anew (g + 1) l)).length, []⟩]) c4 c2 ?_ (.inr ⟨rfl, d4⟩)
    rw [enc_cons]
    show Lossy r2 (mark (g + 1) _ ++ [])
    rw [List.append_nil]
    rcases d3 with rfl | rfl
    · rw [lossy_of_nil c3]
      exact lossy_nil _
    · exact c3
theorem Jn.room_setSpare {j : Jn} {d : Dk} (hr : d.room = j.spare.room) : (j.setSpare d).a.room = j.a.room ∧ (j.setSpare d).b.room = j.b.room := by
  unfold Jn.spare at hr
  unfold Jn.setSpare
  cases hn : j.now with
  | false => rw [hn] at hr; exact ⟨rfl, hr⟩
  | true => rw [hn] at hr; exact ⟨hr, rfl⟩
/-- What Start does to a journal that lives. -/
theorem start_step {j : Jn} {l have_ : List (List Nat)} (h : Live j have_) (hb : ∀ t ∈ l, Oct t) (hl : l.length ≤ 1000) :
    ((start l j).1 = 0 ∧ Live (start l j).2 l ∧ Kept j (start l j).2 ∧ (start l j).2.gen = j.gen + 1 ∧ (start l j).2.now = (!j.now) ∧ Marked (start l j).2) ∨
    ((start l j).1 = 3 ∧ (start l j).2 = j ∧ (big ≤ j.gen ∨ long l = true)) ∨
    ((start l j).1 = 4 ∧ Live (start l j).2 have_ ∧ Kept j (start l j).2 ∧ (start l j).2.gen = j.gen ∧ (start l j).2.now = j.now ∧ (start l j).2.cur = j.cur ∧ j.spare.room < ((93 * l.length + 2 * total l + 300 : Nat) : Int)) ∨
    ((start l j).1 = 5 ∧ After (start l j).2 (fun m => m = have_ ∨ m = l) ∧ j.spare.fuse ≠ -1 ∧ (start l j).2.a.room = j.a.room ∧ (start l j).2.b.room = j.b.room) := by
  obtain ⟨ps, h1, h2, h3, h4⟩ := h.cur
  obtain ⟨y, h5, h6, h7⟩ := h.spare
  obtain ⟨g1, g2⟩ := h2.begins
  unfold start
  rw [if_neg (by rw [h.over]; simp)]
  by_cases hlong : big ≤ j.gen ∨ long l = true
  · right
    left
    rw [if_pos hlong]
    exact ⟨rfl, rfl, hlong⟩
  rw [if_neg hlong]
  have hll : long l = false := by cases hq : long l with | false => rfl | true => exact absurd (.inr hq) hlong
  have hA : ∀ p ∈ anew (j.gen + 1) l, Valid p := anew_valid (by omega) (by omega) hll hb
  have hAG := anew_good hA
  have hAl : (enc (anew (j.gen + 1) l)).length ≤ big := by
    have := enc_le hA
    rw [anew_len] at this
    unfold big
    omega
  rcases cut_cases h5 (c := 0) (Nat.zero_le _) with ⟨e1, s1, r1, f1⟩ | ⟨e1, s1, f1⟩
  · have e1' : (cut 0 j.spare).1 = 0 := e1
    have s1' : Still (cut 0 j.spare).2 [] := s1
    have r1' : (cut 0 j.spare).2.room = j.spare.room := r1
    have f1' : j.spare.fuse = -1 → (cut 0 j.spare).2.fuse = -1 := f1
    rw [if_neg (by rw [e1']; simp)]
    obtain ⟨W, hW⟩ : ∃ W, W = write (cut 0 j.spare).2 (j.gen + 1) 0 (enc (anew (j.gen + 1) l)) := ⟨_, rfl⟩
    have hmo : Oct (mark (j.gen + 1) ([] ++ enc (anew (j.gen + 1) l)).length) := mark_oct (by omega) (by omega) hAl
    have hWo : Ok W.2 := by rw [hW]; exact ok_write (h.okc.2.cut _) _ _ _
    have hok := Jn.ok_setSpare h.oka h.okb hWo
    have hrest := Jn.set_rest j W.2
    have hroom : W.2.room = j.spare.room := by rw [hW, write_room, r1']
    have hrm : ∀ e, ((j.setSpare W.2).ends e).a.room = j.a.room ∧ ((j.setSpare W.2).ends e).b.room = j.b.room := fun _ => Jn.room_setSpare hroom
    have hcases := write_cases (gen := j.gen + 1) (c := 0) s1' (enc_oct hA) hmo (Nat.zero_le _)
    rw [← hW] at hcases ⊢
    rcases hcases with ⟨e2, s2, r2, _, f2⟩ | ⟨e2, s2, r2, f2, q2⟩ | ⟨e2, ⟨r, s2⟩, f2⟩
    · left
      rw [if_pos e2]
      show (0 : Int) = 0 ∧ Live (j.flip W.2 (j.gen + 1)) l ∧ Kept j (j.flip W.2 (j.gen + 1)) ∧ _ ∧ _ ∧ Marked (j.flip W.2 (j.gen + 1))
      obtain ⟨p1, p2, p3, p4, p5, p6, p7⟩ := Jn.flip_is j W.2 (j.gen + 1)
      have hk : Kept j (j.setSpare W.2) := Kept.setSpare hroom fun hf => f2 (f1' hf)
      obtain ⟨l1, l2, l3⟩ := look_enc h2.valid
      rw [List.nil_append, enc_mark] at s2
      refine ⟨rfl, ⟨⟨_, by rw [p1]; exact s2, by rw [p3]; exact hAG.more (mark_tail _ _) fun p hp => by rw [List.mem_singleton] at hp; subst hp; exact mark_valid (by omega) (by omega) hAl, .inl (by rw [getLast_append_ne (by simp)]; rfl), by rw [recs_append, recs_mark, List.append_nil, recs_anew]⟩,
        ⟨enc ps, by rw [p2]; exact h1, l3, fun _ => by rw [l1, h2.gen, p3]; omega⟩, by rw [p5, h.over], by rw [p6]; exact hok.1, by rw [p7]; exact hok.2⟩, ⟨by rw [p6]; exact hk.ra, by rw [p7]; exact hk.rb, fun hf => by rw [p6]; exact hk.fa hf, fun hf => by rw [p7]; exact hk.fb hf⟩, p3, p4, anew (j.gen + 1) l, by rw [p1, p3]; exact s2, by rw [p3]; exact hAG⟩
    · right
      right
      left
      rw [if_neg (by rw [e2]; decide)]
      have hk : Kept j (j.setSpare W.2) := Kept.setSpare hroom fun hf => f2 (f1' hf)
      have hov : ((j.setSpare W.2).over || (decide (W.1 ≠ 0) && decide (W.1 ≠ 4))) = false := by
        rw [hrest.2.2.2.2.2, h.over, e2]
        rfl
      refine ⟨e2, ⟨⟨ps, ?_, ?_, h3, h4⟩, ⟨[], ?_, rfl, fun hw => by cases hw⟩, hov, hok.1, hok.2⟩, hk.ends _, hrest.2.2.2.2.1, hrest.2.2.2.1, Jn.cur_setSpare _ _, by rw [r1'] at q2; have := anew_bytes (j.gen + 1) l; have := mark_len (j.gen + 1) ([] ++ enc (anew (j.gen + 1) l)).length; rw [List.nil_append] at q2 this; omega⟩
      · show Still (j.setSpare W.2).cur _
        rw [Jn.cur_setSpare]
        exact h1
      · show Gd (j.setSpare W.2).gen _
        rw [hrest.2.2.2.2.1]
        exact h2
      · show Still (j.setSpare W.2).spare _
        rw [Jn.spare_setSpare]
        exact s2
    · right
      right
      right
      rw [if_neg (by rw [e2]; decide)]
      refine ⟨e2, ?_, fun hf => f2 (f1' hf), (hrm _).1, (hrm _).2⟩
      refine after_anew (g := j.gen) (ps := ps) (r := r) ?_ h2 h3 h4 hA hok.1 hok.2 ?_
      · show Still (j.setSpare W.2).cur _
        rw [Jn.cur_setSpare]
        exact h1
      · show (nats (j.setSpare W.2).spare.done = [] ∧ nats (j.setSpare W.2).spare.late = r ∧ _) ∨ (nats (j.setSpare W.2).spare.done = _ ∧ nats (j.setSpare W.2).spare.late = r ∧ _)
        rw [Jn.spare_setSpare]
        rcases s2 with ⟨sd, hr⟩ | ⟨sd, hr, _⟩
        · exact .inl ⟨sd.done, sd.late, hr.imp id And.left⟩
        · exact .inr ⟨sd.done, sd.late, hr, hAl⟩
  · have e1' : (cut 0 j.spare).1 = 5 := e1
    have s1' : Dead (cut 0 j.spare).2 y [] := s1
    right
    right
    right
    rw [if_pos (by rw [e1']; decide)]
    have hok := Jn.ok_setSpare h.oka h.okb (h.okc.2.cut 0)
    have hroom : (cut 0 j.spare).2.room = j.spare.room := cut_room _ _
    refine ⟨e1', ?_, f1, ?_⟩
    · refine after_cur (j := (j.setSpare (cut 0 j.spare).2).ends (cut 0 j.spare).1) (g := j.gen) (ps := ps) (qs := []) (r0 := []) (y := y) (by show nats (j.setSpare _).cur.done = _; rw [Jn.cur_setSpare, h1.done]) (by show nats (j.setSpare _).cur.late = _; rw [Jn.cur_setSpare, h1.late]; rfl) (fun r hr => by rw [lossy_of_nil hr]; exact lossy_nil _) (fun q hq => by cases hq) (fun q hq => by cases hq) h2.self
        (by show nats (j.setSpare _).spare.done = _; rw [Jn.spare_setSpare, s1'.done]) (by show nats (j.setSpare _).spare.late = _; rw [Jn.spare_setSpare, s1'.late]) h6 h7 hok.1 hok.2 ?_
      intro m hm
      exact .inl (by rw [tells_self h3 hm, h4])
    · exact Jn.room_setSpare hroom
end JournalMath
namespace JournalMath
open TextNat BlockMath FrameMath
theorem still_new (R : Int) : Still (new R) [] := ⟨rfl, rfl, rfl⟩
/-- Open over two new devices. -/
theorem open_new {R : Int} (h0 : 0 ≤ R) (h1 : R ≤ 1048576) :
    (∃ j, opened (new R) (new R) = (0, [], j) ∧ Live j [] ∧ j.gen = 1 ∧ j.now = true ∧ j.a.fuse = -1 ∧ j.b.fuse = -1 ∧ j.a.room = R ∧ j.b.room = R ∧ Marked j ∧ ∀ x, Still j.cur x → x.length ≤ 279) ∨ (∃ j, opened (new R) (new R) = (4, [], j)) ∧ R < 300 := by
  have ok := Ok.new h0 h1
  have hA : ∀ p ∈ anew 1 [], Valid p := anew_valid (by omega) (by unfold big; omega) rfl (fun t ht => by cases ht)
  have hAG := anew_good hA
  have hAl : (enc (anew 1 [])).length ≤ big := by
    have := enc_le hA
    rw [anew_len] at this
    unfold big
    simp at this
    omega
  have ho : opened (new R) (new R) = ((start [] ⟨new R, new R, false, 0, false⟩).1, [], (start [] ⟨new R, new R, false, 0, false⟩).2) := by
    unfold opened
    simp only [(still_new R).nats, (still_new R).off]
    rw [if_neg (by simp), if_neg (by
      have : corrupt ([] : List Nat) = false := rfl
      rw [this]
      simp), if_pos ⟨rfl, rfl⟩]
  rw [ho]
  unfold start
  rw [if_neg (by simp), if_neg (show ¬ (big ≤ 0 ∨ long [] = true) from fun h => h.elim (fun h => absurd h (by decide)) (fun h => by cases h))]
  have hs : (⟨new R, new R, false, 0, false⟩ : Jn).spare = new R := rfl
  rw [hs]
  rcases cut_cases (still_new R) (c := 0) (Nat.zero_le _) with ⟨e1, s1, r1, f1⟩ | ⟨_, _, f1⟩
  · have e1' : (cut 0 (new R)).1 = 0 := e1
    have s1' : Still (cut 0 (new R)).2 [] := s1
    have f1' : (cut 0 (new R)).2.fuse = -1 := f1 rfl
    rw [if_neg (by rw [e1']; simp)]
    obtain ⟨W, hW⟩ : ∃ W, W = write (cut 0 (new R)).2 (0 + 1) 0 (enc (anew (0 + 1) [])) := ⟨_, rfl⟩
    have hmo : Oct (mark 1 ([] ++ enc (anew 1 [])).length) := mark_oct (by omega) (by unfold big; omega) hAl
    have hcases := write_cases (gen := 0 + 1) (c := 0) s1' (enc_oct hA) hmo (Nat.zero_le _)
    have hWo : Ok W.2 := by rw [hW]; exact ok_write (ok.cut _) _ _ _
    have hroom : W.2.room = R := by rw [hW, write_room, cut_room]; rfl
    show (∃ j, ((if (write (cut 0 (new R)).2 (0 + 1) 0 (enc (anew (0 + 1) []))).1 = 0 then _ else _ : Int × Jn).1, [], _) = _ ∧ _) ∨ _
    rw [← hW] at hcases ⊢
    rcases hcases with ⟨e2, s2, r2, _, f2⟩ | ⟨e2, s2, r2, f2, q2⟩ | ⟨_, _, f2⟩
    · left
      rw [if_pos e2]
      rw [List.nil_append, enc_mark] at s2
      refine ⟨⟨new R, W.2, true, 1, false⟩, rfl, ⟨⟨_, s2, hAG.more (mark_tail _ _) fun p hp => by rw [List.mem_singleton] at hp; subst hp; exact mark_valid (by omega) (by unfold big; omega) hAl, .inl (by rw [getLast_append_ne (by simp)]; rfl), by rw [recs_append, recs_mark, List.append_nil, recs_anew]⟩,
        ⟨[], still_new R, rfl, fun hw => by cases hw⟩, rfl, ok, hWo⟩, rfl, rfl, rfl, f2 f1', rfl, hroom, ⟨anew 1 [], s2, hAG⟩, fun x hx => ?_⟩
      have h8 := anew_bytes 1 []
      have h9 := mark_len 1 (enc (anew 1 [])).length
      have h7 := hx.done.symm.trans s2.done
      rw [h7, ← enc_mark, List.length_append]
      simp [total] at h8
      show (enc (anew 1 [])).length + (mark 1 (enc (anew 1 [])).length).length ≤ 279
      omega
    · right
      rw [if_neg (by rw [e2]; decide)]
      refine ⟨⟨_, by rw [e2]⟩, ?_⟩
      have h8 := anew_bytes 1 []
      have h9 := mark_len 1 ([] ++ enc (anew 1 [])).length
      have hr1 : (cut ((0 : Nat) : Int) (new R)).2.room = R := by rw [cut_room]; rfl
      have q2' : (cut ((0 : Nat) : Int) (new R)).2.room < (([] ++ enc (anew 1 [])).length : Int) + ((mark 1 ([] ++ enc (anew 1 [])).length).length : Int) := q2
      rw [hr1, List.nil_append] at q2'
      rw [List.nil_append] at h9
      simp [total] at h8
      omega
    · exact absurd f1' f2
  · exact absurd rfl f1
theorem rot_done {d : Dk} {m x c : Nat} (hb : rotB (m : Int) c d = true) (hx : (nats d.done)[m]? = some x) : nats (rotD (m : Int) c d).done = (nats d.done).set m ((x ^^^ c) % 256) := by
  have hm : m < d.done.size := by rw [← nats_len]; exact (List.getElem?_eq_some_iff.1 hx).1
  unfold rotD
  rw [if_pos hb, show (m : Int).toNat = m by omega, hx]
  show nats (d.done.extract 0 m ++ txt [((x ^^^ c) % 256)] ++ d.done.extract (m + 1) d.done.size) = _
  have hp : nats (d.done.extract (m + 1) d.done.size) = ((nats d.done).drop (m + 1)).take (d.done.size - (m + 1)) := by
    unfold nats
    rw [ByteArray.data_extract, Array.toList_extract, List.extract_eq_take_drop, List.map_take, List.map_drop]
  rw [nats_append, nats_append, nats_extract, hp, nats_txt _ (by simp; omega), List.set_eq_take_append_cons_drop, if_pos (by rw [nats_len]; exact hm), List.append_assoc]
  congr 1
  show _ :: List.take _ _ = _
  rw [List.take_of_length_le (by rw [List.length_drop, nats_len]; omega)]
theorem xor_ne {x c : Nat} (hx : x < 256) (hc : c < 256) (h0 : c ≠ 0) : (x ^^^ c) % 256 ≠ x := by
  intro h
  have hl : x ^^^ c < 2 ^ 8 := Nat.xor_lt_two_pow (by omega) (by omega)
  rw [Nat.mod_eq_of_lt (by omega)] at h
  have h2 := congrArg (fun z => x ^^^ z) h
  simp only [← Nat.xor_assoc, Nat.xor_self, Nat.zero_xor] at h2
  exact h0 h2
/-- Which part has a place's byte. -/
theorem enc_find : ∀ (ps : List Part) {i : Nat}, i < (enc ps).length → ∃ A q B, ps = A ++ q :: B ∧ (enc A).length ≤ i ∧ i < (enc A).length + (sealP q).length
  | [], i, h => by cases h
  | p :: ps, i, h => by
    by_cases hi : i < (sealP p).length
    · exact ⟨[], p, ps, rfl, Nat.zero_le _, by show i < 0 + _; omega⟩
    · rw [enc_cons, List.length_append] at h
      obtain ⟨A, q, B, h1, h2, h3⟩ := enc_find ps (i := i - (sealP p).length) (by omega)
      refine ⟨p :: A, q, B, by rw [h1]; rfl, ?_, ?_⟩
      · rw [enc_cons, List.length_append]; omega
      · rw [enc_cons, List.length_append]; omega
/-- A byte turned ahead of the last Mark is told. -/
theorem turned_corrupt {ps : List Part} {g i x c : Nat} (hG : Gd g ps) (hb : (enc ps).length ≤ big) (hx : (enc ps)[i]? = some x) (hc : c ≠ x) (hc2 : c < 256) :
    ∃ A, ∃ B, ps = A ++ B ∧ partsOf ((enc (ps ++ [⟨4, g, (enc ps).length, []⟩])).set i c) = A ∧ corrupt ((enc (ps ++ [⟨4, g, (enc ps).length, []⟩])).set i c) = true := by
  obtain ⟨g1, g2⟩ := hG.begins
  have hi := (List.getElem?_eq_some_iff.1 hx).1
  obtain ⟨A, q, B, h1, h2, h3⟩ := enc_find ps hi
  have hq : Valid q := hG.valid q (by rw [h1]; simp)
  have hAv : ∀ p ∈ A, Valid p := fun p hp => hG.valid p (by rw [h1]; simp [hp])
  have hM := mark_valid (g := g) (pl := (enc ps).length) g1 g2 hb
  obtain ⟨k, hk⟩ : ∃ k, i = (enc A).length + k := ⟨i - (enc A).length, by omega⟩
  have hkq : k < (sealP q).length := by omega
  have hencs : enc ps = enc A ++ (sealP q ++ enc B) := by rw [h1, enc_append, enc_cons]
  have hxq : (sealP q)[k]? = some x := by
    rw [hencs, hk, List.getElem?_append_right (by omega), show (enc A).length + k - (enc A).length = k by omega, List.getElem?_append_left hkq] at hx
    exact hx
  have hset : (enc (ps ++ [⟨4, g, (enc ps).length, []⟩])).set i c = enc A ++ ((sealP q).set k c ++ (enc B ++ mark g (enc ps).length)) := by
    rw [← enc_mark]
    have e : enc ps ++ mark g (enc ps).length = enc A ++ (sealP q ++ (enc B ++ mark g (enc ps).length)) := by
      conv => lhs; rw [hencs]
      simp only [List.append_assoc]
      rw [hencs]
    rw [e, hk, List.set_append_right _ _ (by omega), show (enc A).length + k - (enc A).length = k by omega, List.set_append_left _ _ hkq]
  rw [hset]
  obtain ⟨X, hX⟩ : ∃ X, X = enc A ++ ((sealP q).set k c ++ (enc B ++ mark g (enc ps).length)) := ⟨_, rfl⟩
  have hnone : atP (enc A ++ ((sealP q).set k c ++ (enc B ++ mark g (enc ps).length))) (enc A).length = none := by
    unfold atP
    rw [drop_pre]
    cases hs : stands ((sealP q).set k c ++ (enc B ++ mark g (enc ps).length)) with
    | none => rfl
    | some t =>
      exfalso
      obtain ⟨m, hm, htl⟩ := stands_is hs
      have hoct : Oct ((sealP q).set k c ++ (enc B ++ mark g (enc ps).length)) := by
        refine Oct.append ?_ (Oct.append (enc_oct fun p hp => hG.valid p (by rw [h1]; simp [hp])) (mark_oct g1 g2 hb))
        intro b hb
        rcases List.mem_or_eq_of_mem_set hb with h | h
        · have := enc_oct (qs := [q]) (fun p hp => by rw [List.mem_singleton] at hp; rw [hp]; exact hq)
          rw [enc_cons] at this
          exact this b (List.mem_append.2 (.inl h))
        · omega
      exact turned hq.len htl hq.oct (stands_bytes hs hoct) hxq hc hm
  obtain ⟨p1, p2⟩ := run_parts hAv hnone
  refine ⟨A, q :: B, h1, p1, ?_⟩
  have hlen : (enc A ++ ((sealP q).set k c ++ enc B)).length = (enc ps).length := by
    rw [hencs]
    simp only [List.length_append, List.length_set]
  have hat : atP (enc A ++ ((sealP q).set k c ++ (enc B ++ mark g (enc ps).length))) (enc ps).length = some (⟨4, g, (enc ps).length, []⟩, (enc ps).length + (sealP ⟨4, g, (enc ps).length, []⟩).length) := by
    have e : enc A ++ ((sealP q).set k c ++ (enc B ++ mark g (enc ps).length)) = (enc A ++ ((sealP q).set k c ++ enc B)) ++ (sealP ⟨4, g, (enc ps).length, []⟩ ++ []) := by
      rw [List.append_nil]
      simp only [List.append_assoc]
      rfl
    have := atP_seal hM (enc A ++ ((sealP q).set k c ++ enc B)) []
    rw [← e, hlen] at this
    exact this
  refine corrupt_yes (i := (enc ps).length) (by rw [p2]; omega) ?_ hat (by rw [p2]; show (enc A).length < (enc ps).length; omega)
  have e2 : (enc A ++ ((sealP q).set k c ++ (enc B ++ mark g (enc ps).length))).length = (enc ps).length + (mark g (enc ps).length).length := by
    rw [← hlen]
    simp only [List.length_append]
    omega
  rw [e2]
  have := seal_len ⟨4, g, (enc ps).length, []⟩
  unfold mark
  omega
/-- The parts ahead begin as all do. -/
theorem gen_ahead {g : Nat} {A B : List Part} (h : Gd g (A ++ B)) : genOf A = 0 ∨ genOf A = g := by
  cases A with
  | nil => exact .inl rfl
  | cons p A =>
    right
    have := h.gen
    exact this
/-- Open over a device of which a byte ahead of the last Mark was turned. -/
theorem open_turned {j : Jn} {l : List (List Nat)} {ps : List Part} {i x c : Nat} {d : Dk} (h : Live j l) (hs : Still j.cur (enc (ps ++ [⟨4, j.gen, (enc ps).length, []⟩]))) (hG : Gd j.gen ps) (hx : (enc ps)[i]? = some x) (hc : c ≠ x) (hc2 : c < 256)
    (hd : Still d ((enc (ps ++ [⟨4, j.gen, (enc ps).length, []⟩])).set i c)) : (opened (j.setCur d).a (j.setCur d).b).1 = 6 ∧ (opened (j.setCur d).a (j.setCur d).b).2.1 = [] := by
  have hlen := Ok.len h.okc.1 hs
  have hb : (enc ps).length ≤ big := by
    rw [enc_append, List.length_append] at hlen
    unfold big
    omega
  obtain ⟨A, B, hAB, h1, h2⟩ := turned_corrupt hG hb hx hc hc2
  obtain ⟨y, h5, h6, h7⟩ := h.spare
  have hgA : genOf A = 0 ∨ genOf A = j.gen := gen_ahead (B := B) (by rw [← hAB]; exact hG)
  obtain ⟨X, hX⟩ : ∃ X, X = (enc (ps ++ [⟨4, j.gen, (enc ps).length, []⟩])).set i c := ⟨_, rfl⟩
  rw [← hX] at h1 h2 hd
  unfold Jn.spare at h5
  unfold Jn.setCur
  cases hn : j.now with
  | false =>
    rw [hn] at h5
    have h5' : Still j.b y := h5
    show (opened d j.b).1 = 6 ∧ (opened d j.b).2.1 = []
    unfold opened
    simp only [hd.nats, h5'.nats, hd.off, h5'.off, h1, h2, h6]
    rw [if_neg (by simp), if_pos]
    · exact ⟨rfl, rfl⟩
    · left
      refine ⟨trivial, ?_⟩
      rintro ⟨q1, q2, q3⟩
      have := h7 (by simpa using q2)
      omega
  | true =>
    rw [hn] at h5
    have h5' : Still j.a y := h5
    show (opened j.a d).1 = 6 ∧ (opened j.a d).2.1 = []
    unfold opened
    simp only [hd.nats, h5'.nats, hd.off, h5'.off, h1, h2, h6]
    rw [if_neg (by simp), if_pos]
    · exact ⟨rfl, rfl⟩
    · right
      refine ⟨trivial, ?_⟩
      rintro ⟨q1, q2, q3⟩
      have := h7 (by simpa using q2)
      omega
end JournalMath
namespace Go.Proofs.YtajkldmpllphjaaDoor
open Go.RowKit

/-- The call's own row: n elements in use; the mark, if there is one, lies outside. -/
def OwnsM (w : World) (base : Nat) (e : TypeId) (v : Value) (n : Nat) (xs : List Value) : Prop :=
  xs.length = n ∧
  ((v = .slice none 0 0 ∧ n = 0) ∨
   ∃ g cap cur lo hi, v = .slice (some ⟨g, 0, none⟩) n cap ∧ base ≤ g ∧ w.heap[g]? = some (.cells cur e (lo, hi)) ∧ (hi = 0 ∨ cur.size ≤ lo) ∧ n ≤ cap ∧ cap ≤ maxLen ∧ cur.size = cap ∧ cur.toList.take n = xs)

section
variable {w : World} {base : Nat} {e : TypeId} {v : Value} {n : Nat} {xs : List Value}

theorem OwnsM.of (h : w.ownsRow base e 1 v n xs) : OwnsM w base e v n xs := by
  refine ⟨by simpa using h.1, ?_⟩
  rcases h.2 with h2 | ⟨g, cap, cur, h3, h4, h5, h6, h7, h8, h9⟩
  · exact .inl h2
  · exact .inr ⟨g, cap, cur, 0, 0, h3, h4, h5, .inl rfl, h6, h7, by simpa using h8, by simpa using h9⟩

theorem OwnsM.weaken {base' : Nat} (h : OwnsM w base e v n xs) (hb : base' ≤ base) : OwnsM w base' e v n xs := by
  refine ⟨h.1, ?_⟩
  rcases h.2 with h2 | ⟨g, cap, cur, lo, hi, h3, h4, h5⟩
  · exact .inl h2
  · exact .inr ⟨g, cap, cur, lo, hi, h3, Nat.le_trans hb h4, h5⟩

theorem OwnsM.lt (h : OwnsM w base e v n xs) : ∀ k, v.ownBlock = some k → base ≤ k ∧ k < w.heap.size := by
  intro k hk
  rcases h.2 with ⟨rfl, _⟩ | ⟨g, cap, cur, lo, hi, rfl, hb, hg, _⟩
  · simp [Value.ownBlock] at hk
  · simp [Value.ownBlock] at hk
    subst hk
    exact ⟨hb, (Array.getElem?_eq_some_iff.1 hg).1⟩

theorem OwnsM.kept {w' : World} {row : Option Nat} (h : OwnsM w base e v n xs) (hg : w.grownBy w' row) (hne : v.ownBlock = none ∨ v.ownBlock ≠ row) : OwnsM w' base e v n xs := by
  refine ⟨h.1, ?_⟩
  rcases h.2 with hn | ⟨g, cap, cur, lo, hi, rfl, hb, hgg, rest⟩
  · exact .inl hn
  · refine .inr ⟨g, cap, cur, lo, hi, rfl, hb, ?_, rest⟩
    rw [hg.block g (Array.getElem?_eq_some_iff.1 hgg).1 (by simpa [Value.ownBlock] using hne)]
    exact hgg
theorem OwnsM.alloc (h : OwnsM w base e v n xs) (o : Obj) : OwnsM (w.alloc o) base e v n xs :=
  h.kept (World.grownBy_alloc w o none) (by cases hv : v.ownBlock <;> simp)
theorem OwnsM.drewN (h : OwnsM w base e v n xs) (d : Nat) : OwnsM { w with drawn := w.drawn + d } base e v n xs := h
theorem OwnsM.below {w' : World} {B : Nat} (h : OwnsM w base e v n xs) (hb : Below B w w') (hB : ∀ k, v.ownBlock = some k → k < B) : OwnsM w' base e v n xs := by
  refine ⟨h.1, ?_⟩
  rcases h.2 with hn | ⟨g, cap, cur, lo, hi, rfl, hb2, hgg, rest⟩
  · exact .inl hn
  · exact .inr ⟨g, cap, cur, lo, hi, rfl, hb2, (hb.block g (hB g rfl)).trans hgg, rest⟩

theorem OwnsM.shape (h : OwnsM w base e v n xs) : ∃ p cap, v = .slice p n cap := by
  rcases h.2 with ⟨rfl, rfl⟩ | ⟨g, cap, cur, lo, hi, rfl, _⟩
  · exact ⟨_, _, rfl⟩
  · exact ⟨_, _, rfl⟩

/-- A row of at least one element: its block, its cells, which may be written. -/
theorem OwnsM.open (h : OwnsM w base e v n xs) (h0 : 0 < n) : ∃ g cap, v = .slice (some ⟨g, 0, none⟩) n cap ∧ base ≤ g ∧ g < w.heap.size ∧ n ≤ cap ∧ cap ≤ maxLen ∧ (∀ j, j < n → w.cell? ⟨g, j, none⟩ = xs[j]?) ∧ (∀ j, j < n → w.frozen? ⟨g, j, none⟩ = false) := by
  rcases h.2 with ⟨_, h1⟩ | ⟨g, cap, cur, lo, hi, rfl, hb, hg, hm, hnc, hcm, hcs, htake⟩
  · omega
  · refine ⟨g, cap, rfl, hb, (Array.getElem?_eq_some_iff.1 hg).1, hnc, hcm, fun j hj => ?_, fun j hj => ?_⟩
    · rw [cell_of_row w g j cur e (lo, hi) hg, ← htake, List.getElem?_take, if_pos hj]
      simp
    · simp only [World.frozen?, hg]
      rcases hm with rfl | hm
      · simp
      · simp
        omega

theorem OwnsM.cells (h : OwnsM w base e v n xs) {g : Nat} (hg : v.ownBlock = some g) : ∀ j u, xs[j]? = some u → w.cell? ((⟨g, 0, none⟩ : Addr).add j) = some u := by
  intro j u hu
  rcases h.2 with ⟨rfl, _⟩ | ⟨g', cap, cur, lo, hi, rfl, _, hgg, _, _, _, _, htake⟩
  · simp [Value.ownBlock] at hg
  · simp [Value.ownBlock] at hg
    subst hg
    have hadd : (⟨g', 0, none⟩ : Addr).add j = ⟨g', j, none⟩ := by unfold Addr.add; split <;> simp_all
    rw [hadd, cell_of_row w g' j cur e (lo, hi) hgg]
    rw [← htake, List.getElem?_take] at hu
    split at hu
    · simpa using hu
    · cases hu
end

/-- '[]byte(s)' makes such a row. -/
theorem OwnsM.ofBytes (w : World) (base : Nat) (e : TypeId) (s : ByteArray) (hb : base ≤ w.heap.size) (hs : s.size ≤ maxLen) :
    OwnsM (w.drew.alloc (.cells (bytesRow s (grownCap w s.size 0 e)) e ((bytesRow s (grownCap w s.size 0 e)).size, (bytesRow s (grownCap w s.size 0 e)).size + 1))) base e
      (.slice (some ⟨w.heap.size, 0, none⟩) s.size (grownCap w s.size 0 e)) s.size (s.data.toList.map fun b => Value.int .u8 (b.toNat : Int)) := by
  have hsz : s.data.toList.length = s.size := Array.length_toList
  refine ⟨by rw [List.length_map]; exact hsz, .inr ⟨w.heap.size, _, _, _, _, rfl, hb, heap_alloc_new w.drew _, .inr (Nat.le_refl _), grownCap_ge w s.size 0 e, grownCap_le_maxLen w s.size 0 e hs, ?_, ?_⟩⟩
  · have := grownCap_ge w s.size 0 e
    simp only [bytesRow, Array.size_append, Array.size_map, Array.size_replicate]
    have h2 : s.data.size = s.size := rfl
    omega
  · simp only [bytesRow, Array.toList_append, Array.toList_map]
    have hL : (s.data.toList.map fun (b : UInt8) => Value.int .u8 (b.toNat : Int)).length = s.size := by rw [List.length_map]; exact hsz
    rw [← hL]
    exact List.take_left

section
variable {P : Program}

theorem run_storeCells_m (g o : Nat) (t : TypeId) (fr : Nat × Nat) : ∀ (vs : List Value) (i : Nat) (cur : Array Value) (w : World), w.heap[g]? = some (.cells cur t fr) → (fr.2 = 0 ∨ cur.size ≤ fr.1) → o + i + vs.length ≤ cur.size → (∀ v ∈ vs, v.oneCell' = true) →
    (storeCells ⟨g, o, none⟩ vs i).run P w = .ok () (w.setRow g (cur.toList.take (o + i) ++ vs ++ cur.toList.drop (o + i + vs.length)).toArray)
  | [], i, cur, w, hg, _, _, _ => by
    simp only [storeCells, List.append_nil, List.length_nil, Nat.add_zero, List.take_append_drop, Array.toArray_toList]
    rw [setRow_self w g cur t fr hg]
    rfl
  | v :: rest, i, cur, w, hg, hm, hl, h1 => by
    have hi : o + i < cur.size := by simp at hl; omega
    have hadd : (⟨g, o, none⟩ : Addr).add i = ⟨g, o + i, none⟩ := by unfold Addr.add; split <;> simp_all
    have hcell : w.cell? ⟨g, o + i, none⟩ = some cur[o + i] := by simp [World.cell?, hg, hi]
    have hfro : w.frozen? ⟨g, o + i, none⟩ = false := by
      simp only [World.frozen?, hg]
      rcases hm with hm | hm
      · simp [hm]
      · simp
        omega
    have hst : (store ((⟨g, o, none⟩ : Addr).add i) v).run P w = .ok () (w.setRow g (cur.setIfInBounds (o + i) v)) := by
      rw [hadd, run_store P w _ v _ (h1 v (by simp)), hcell]
      simp [hfro, setCell_eq_setRow w g (o + i) cur t fr v hg]
    have ih := run_storeCells_m g o t fr rest (i + 1) (cur.setIfInBounds (o + i) v) (w.setRow g (cur.setIfInBounds (o + i) v)) (setRow_heap w g cur _ t _ hg) (by simpa using hm) (by simp at hl ⊢; omega) (fun x hx => h1 x (by simp [hx]))
    simp only [storeCells, Sem.run_bind, hst, Result.andThen_ok, ih, setRow_setRow]
    congr 3
    have e := list_seg_step cur.toList (o + i) v rest (by simp at hl ⊢; omega)
    simpa [Array.toList_setIfInBounds, Nat.add_assoc] using e

theorem run_append_room_m (w : World) (t ty e : TypeId) (i : TypeInfo) (ht : P.underlying t = some (.slice e)) (hi : P.info? e = some i) (hsize : i.size = 1)
    (g sLen sCap : Nat) (cur : Array Value) (fr : Nat × Nat) (hg : w.heap[g]? = some (.cells cur e fr)) (hm : fr.2 = 0 ∨ cur.size ≤ fr.1)
    (a : Addr) (m c : Nat) (news : List Value) (hl : news.length = m) (hnews : ∀ j u, news[j]? = some u → w.cell? (a.add j) = some u) (h1 : ∀ u ∈ news, u.oneCell' = true)
    (hroom : sLen + m ≤ sCap) (hfit : sLen + news.length ≤ cur.size) :
    (Builtin.append_ #[t, t] ty #[.slice (some ⟨g, 0, none⟩) sLen sCap, .slice (some a) m c]).run P w =
      .ok (.slice (some ⟨g, 0, none⟩) (sLen + m) sCap) (w.setRow g (cur.toList.take sLen ++ news ++ cur.toList.drop (sLen + news.length)).toArray) := by
  have hf := run_firstCells_some (P := P) w i.size m a m c news (by rw [hsize, Nat.mul_one]; exact hl) hnews
  have hst := run_storeCells_m (P := P) g sLen e fr news 0 cur w hg hm (by simpa using hfit) h1
  simp only [Nat.add_zero] at hst
  rw [hsize] at hf
  simp [Builtin.append_, run_underlying ht, sizeOf, typeInfo, hi, hsize, Builtin.lenOf, hroom, hf, Addr.add_lit, hst]

theorem run_append_far (w : World) (base : Nat) (t ty e : TypeId) (i : TypeInfo) (z : Value) (bytes : Nat) (ht : P.underlying t = some (.slice e)) (hi : P.info? e = some i) (hz : i.zero = some z)
    (hsize : i.size = 1) (hby : i.bytes = bytes) (hzs : z.cells.size = 1)
    (v : Value) (n : Nat) (xs : List Value) (hown : OwnsM w base e v n xs)
    (a : Addr) (m c : Nat) (news : List Value) (hl : news.length = m) (hnews : ∀ j u, news[j]? = some u → w.cell? (a.add j) = some u) (h1 : ∀ u ∈ news, u.oneCell' = true)
    (h63 : n + m ≤ maxLen) (hbytes : (n + m) * bytes ≤ 140737488355328) (hbase : base ≤ w.heap.size) :
    ∃ v' w', (Builtin.append_ #[t, t] ty #[v, .slice (some a) m c]).run P w = .ok v' w' ∧ OwnsM w' base e v' (n + m) (xs ++ news) ∧ w.grownBy w' v.ownBlock ∧ ∀ k, v'.ownBlock = some k → v.ownBlock = some k ∨ w.heap.size ≤ k := by
  have hlen : (xs ++ news).length = n + m := by rw [List.length_append, hown.1, hl]
  rcases hown.2 with ⟨rfl, rfl⟩ | ⟨g, cap, cur, lo, hi', rfl, hbg, hg, hmk, hnc, hcm, hcs, htake⟩
  · have hx : xs = [] := List.eq_nil_of_length_eq_zero hown.1
    subst hx
    obtain ⟨v', w', h2, h3, h4, _⟩ := run_append_own (P := P) w w.heap.size t ty e i z 1 bytes ht hi hz hsize hby hzs (by decide) (.slice none 0 0) 0 [] (World.ownsRow_nil w w.heap.size e 1) a m c news (by rw [Nat.mul_one]; exact hl) hnews h1 h63 hbytes (Nat.le_refl _)
    exact ⟨v', w', h2, (OwnsM.of h3).weaken hbase, h4, fun k hk => .inr ((OwnsM.of h3).lt k hk).1⟩
  · by_cases hroom : n + m ≤ cap
    · have hr := run_append_room_m (P := P) w t ty e i ht hi hsize g n cap cur (lo, hi') hg hmk a m c news hl hnews h1 hroom (by omega)
      refine ⟨_, _, hr, ⟨hlen, .inr ⟨g, cap, _, lo, hi', rfl, hbg, setRow_heap w g cur _ e _ hg, ?_, hroom, hcm, ?_, ?_⟩⟩, ⟨rfl, rfl, rfl, by simp, fun k _ hk => setRow_other w g k _ (fun e => hk (by simp [Value.ownBlock, e]))⟩, fun k hk => .inl hk⟩
      · rcases hmk with h | h
        · exact .inl h
        · refine .inr ?_
          simp only [List.size_toArray, List.length_append, List.length_take, List.length_drop, Array.length_toList]
          omega
      · simp only [List.size_toArray, List.length_append, List.length_take, List.length_drop, Array.length_toList]
        omega
      · rw [htake]
        show List.take (n + m) (xs ++ news ++ _) = _
        rw [← hlen]
        exact List.take_left
    · have holds : ∀ j u, xs[j]? = some u → w.cell? ((⟨g, 0, none⟩ : Addr).add j) = some u := hown.cells (g := g) rfl
      have hr := run_append_grow (P := P) w t ty e i z ht hi hz ⟨g, 0, none⟩ n cap xs (by rw [hsize, Nat.mul_one]; exact hown.1) holds a m c news (by rw [hsize, Nat.mul_one]; exact hl) hnews (by omega) (by simp only [maxLen] at h63; omega) (growslice_fits (by omega) (by rw [hby]; exact hbytes))
      have hge := grownCap_ge w (n + m) cap e
      refine ⟨_, _, hr, OwnsM.of ⟨by rw [Nat.mul_one]; exact hlen, .inr ⟨w.heap.size, _, _, rfl, hbase, heap_alloc_new w.drew _, hge, grownCap_le_maxLen w (n + m) cap e h63, ?_, ?_⟩⟩, ⟨rfl, rfl, rfl, by simp, fun k hk _ => (by first | exact heap_alloc_old w.drew _ k hk | exact heap_alloc_old w.drew _ hk)⟩, fun k hk => .inr (by simp [Value.ownBlock] at hk; omega)⟩
      · have := hown.1
        simp only [Array.size_append, List.size_toArray, size_zeroCells, hzs, hl]
        omega
      · rw [Nat.mul_one]
        simp only [Array.toList_append, List.append_assoc]
        rw [← List.append_assoc, ← hlen]
        exact List.take_left

theorem run_append_m (w : World) (base : Nat) (t ty e : TypeId) (i : TypeInfo) (z : Value) (bytes : Nat) (ht : P.underlying t = some (.slice e)) (hi : P.info? e = some i) (hz : i.zero = some z)
    (hsize : i.size = 1) (hby : i.bytes = bytes) (hzs : z.cells.size = 1)
    (v : Value) (n : Nat) (xs : List Value) (hown : OwnsM w base e v n xs)
    (a : Addr) (m c : Nat) (news : List Value) (hl : news.length = m) (hnews : ∀ j u, news[j]? = some u → w.cell? (a.add j) = some u) (h1 : ∀ u ∈ news, u.oneCell' = true)
    (h63 : n + m ≤ maxLen) (hbytes : (n + m) * bytes ≤ 140737488355328) (hbase : base ≤ w.heap.size) :
    ∃ v' w', (Builtin.append_ #[t, t] ty #[v, .slice (some a) m c]).run P w = .ok v' w' ∧ OwnsM w' base e v' (n + m) (xs ++ news) ∧ w.grownBy w' v.ownBlock := by
  obtain ⟨v', w', h1, h2, h3, _⟩ := run_append_far (P := P) w base t ty e i z bytes ht hi hz hsize hby hzs v n xs hown a m c news hl hnews h1 h63 hbytes hbase
  exact ⟨v', w', h1, h2, h3⟩

/-- Beside other rows: the row lies where it lay, or in a new block. -/
theorem wpList_append_far {w : World} {ops : Array Oper} {rest : List Oper} {o : Oper} {a : Act} {Q : Exit → Act → World → Prop} (hgd : o.guard = none) (s x : Operand) (t : TypeId)
    (ho : o.op = .call { callee := .builtin .append, args := #[s, x], argTypes := #[t, t] })
    (base : Nat) (e : TypeId) (i : TypeInfo) (z : Value) (bytes : Nat) (ht : P.underlying t = some (.slice e)) (hi : P.info? e = some i) (hz : i.zero = some z)
    (hsize : i.size = 1) (hby : i.bytes = bytes) (hzs : z.cells.size = 1)
    (v : Value) (n : Nat) (xs : List Value) (hs : a.eval s = v) (hown : OwnsM w base e v n xs)
    (ad : Addr) (m c : Nat) (news : List Value) (hx : a.eval x = .slice (some ad) m c) (hl : news.length = m) (hnews : ∀ j u, news[j]? = some u → w.cell? (ad.add j) = some u) (h1 : ∀ u ∈ news, u.oneCell' = true)
    (h63 : n + m ≤ maxLen) (hbytes : (n + m) * bytes ≤ 140737488355328) (hbase : base ≤ w.heap.size)
    (h : ∀ v' w', OwnsM w' base e v' (n + m) (xs ++ news) → w.grownBy w' v.ownBlock → (∀ k, v'.ownBlock = some k → v.ownBlock = some k ∨ w.heap.size ≤ k) → wpList P ops Q rest (a.put o.dst v') w') : wpList P ops Q (o :: rest) a w := by
  refine wpList_plain hgd fun K hK => ?_
  obtain ⟨v', w', hr, h2, h3, h4⟩ := run_append_far (P := P) w base t o.type e i z bytes ht hi hz hsize hby hzs v n xs hown ad m c news hl hnews h1 h63 hbytes hbase
  unfold Oper.wp execOp
  simp only [ho, resolve, invoke, builtin, Sem.run_bind, Sem.run_pure, Result.andThen_ok, List.map_toArray, List.map_cons, List.map_nil, hs, hx, hr]
  exact hK _ _ (h v' w' h2 h3 h4)

theorem wpList_append_m {w : World} {ops : Array Oper} {rest : List Oper} {o : Oper} {a : Act} {Q : Exit → Act → World → Prop} (hgd : o.guard = none) (s x : Operand) (t : TypeId)
    (ho : o.op = .call { callee := .builtin .append, args := #[s, x], argTypes := #[t, t] })
    (base : Nat) (e : TypeId) (i : TypeInfo) (z : Value) (bytes : Nat) (ht : P.underlying t = some (.slice e)) (hi : P.info? e = some i) (hz : i.zero = some z)
    (hsize : i.size = 1) (hby : i.bytes = bytes) (hzs : z.cells.size = 1)
    (v : Value) (n : Nat) (xs : List Value) (hs : a.eval s = v) (hown : OwnsM w base e v n xs)
    (ad : Addr) (m c : Nat) (news : List Value) (hx : a.eval x = .slice (some ad) m c) (hl : news.length = m) (hnews : ∀ j u, news[j]? = some u → w.cell? (ad.add j) = some u) (h1 : ∀ u ∈ news, u.oneCell' = true)
    (h63 : n + m ≤ maxLen) (hbytes : (n + m) * bytes ≤ 140737488355328) (hbase : base ≤ w.heap.size)
    (h : ∀ v' w', OwnsM w' base e v' (n + m) (xs ++ news) → w.grownBy w' v.ownBlock → wpList P ops Q rest (a.put o.dst v') w') : wpList P ops Q (o :: rest) a w := by
  refine wpList_plain hgd fun K hK => ?_
  obtain ⟨v', w', hr, h2, h3⟩ := run_append_m (P := P) w base t o.type e i z bytes ht hi hz hsize hby hzs v n xs hown ad m c news hl hnews h1 h63 hbytes hbase
  unfold Oper.wp execOp
  simp only [ho, resolve, invoke, builtin, Sem.run_bind, Sem.run_pure, Result.andThen_ok, List.map_toArray, List.map_cons, List.map_nil, hs, hx, hr]
  exact hK _ _ (h v' w' h2 h3)

theorem step_append_m {w : World} {ops : Array Oper} {o : Oper} {a : Act} {K : Act → World → Prop} {Q : Exit → Act → World → Prop} {E : Prop} (hgd : o.guard = none) (s x : Operand) (t : TypeId)
    (ho : o.op = .call { callee := .builtin .append, args := #[s, x], argTypes := #[t, t] })
    (base : Nat) (e : TypeId) (i : TypeInfo) (z : Value) (bytes : Nat) (ht : P.underlying t = some (.slice e)) (hi : P.info? e = some i) (hz : i.zero = some z)
    (hsize : i.size = 1) (hby : i.bytes = bytes) (hzs : z.cells.size = 1)
    (v : Value) (n : Nat) (xs : List Value) (hs : a.eval s = v) (hown : OwnsM w base e v n xs)
    (ad : Addr) (m c : Nat) (news : List Value) (hx : a.eval x = .slice (some ad) m c) (hl : news.length = m) (hnews : ∀ j u, news[j]? = some u → w.cell? (ad.add j) = some u) (h1 : ∀ u ∈ news, u.oneCell' = true)
    (h63 : n + m ≤ maxLen) (hbytes : (n + m) * bytes ≤ 140737488355328) (hbase : base ≤ w.heap.size)
    (h : ∀ v' w', OwnsM w' base e v' (n + m) (xs ++ news) → w.grownBy w' v.ownBlock → K (a.put o.dst v') w') :
    if Region.wanted o (yielded ops a.tmps) = true then Oper.wp P o a w K Q else E := by
  have hw : Region.wanted o (yielded ops a.tmps) = true := by simp [Region.wanted, hgd]
  rw [if_pos hw]
  obtain ⟨v', w', hr, h2, h3⟩ := run_append_m (P := P) w base t o.type e i z bytes ht hi hz hsize hby hzs v n xs hown ad m c news hl hnews h1 h63 hbytes hbase
  unfold Oper.wp execOp
  simp only [ho, resolve, invoke, builtin, Sem.run_bind, Sem.run_pure, Result.andThen_ok, List.map_toArray, List.map_cons, List.map_nil, hs, hx, hr]
  exact h v' w' h2 h3
end
end Go.Proofs.YtajkldmpllphjaaDoor
namespace Go.Proofs.YtajkldmpllphjaaDoor
open Go.RowKit BlockMath TextNat JournalMath

/-- None of these blocks is one of crc's tables. -/
def Far (S : Nat → Prop) : Prop := ∀ k, S k → k ≠ 1 ∧ k ≠ 2
theorem far_of {S : Nat → Prop} {B : Nat} (hB : 1 < B ∧ 2 < B) (hS : ∀ k, S k → B ≤ k) : Far S := fun k hk => by
  have h1 := hS k hk
  have h2 := hB.1
  have h3 := hB.2
  exact ⟨fun e => by rw [e] at h1; exact absurd h2 (Nat.not_lt.2 h1), fun e => by rw [e] at h1; exact absurd h3 (Nat.not_lt.2 h1)⟩
theorem Tables.apart {S : Nat → Prop} {w w' : World} (h : Tables w) (ha : Apart S w w') (hS : Far S) : Tables w' := by
  have h1 := ha.block _ h.lt.1 fun hs => (hS _ hs).1 rfl
  have h2 := ha.block _ h.lt.2 fun hs => (hS _ hs).2 rfl
  refine ⟨fun i hi => ?_, fun i hi => ?_⟩
  · rw [← h.low i hi]
    unfold World.cell?
    simp only [h1]
  · rw [← h.high i hi]
    unfold World.cell?
    simp only [h2]
/-- How a journal of the program lies in memory: in which blocks, which devices' pointers it has, and that it stays while those blocks do. -/
structure Jrn where
  at_ : World → Nat → (Nat → Prop) → Nat → Nat → Bool → Nat → Bool → Prop
  stays : ∀ {w w' : World} {p ba bb g : Nat} {S : Nat → Prop} {n o : Bool}, at_ w p S ba bb n g o → w.heap.size ≤ w'.heap.size → (∀ k, S k → w'.heap[k]? = w.heap[k]?) → at_ w' p S ba bb n g o
  lt : ∀ {w : World} {p ba bb g : Nat} {S : Nat → Prop} {n o : Bool}, at_ w p S ba bb n g o → ∀ k, S k → k < w.heap.size
/-- A journal and its two devices, none within another. -/
structure Trio (D : Dev) (J : Jrn) (w : World) (p ba bb : Nat) (S : Nat → Prop) (j : Jn) : Prop where
  lies : ∃ Sa Sb Sj, D.at_ w ba Sa j.a ∧ D.at_ w bb Sb j.b ∧ J.at_ w p Sj ba bb j.now j.gen j.over ∧ (∀ k, Sa k → ¬ Sb k) ∧ (∀ k, Sa k → ¬ Sj k) ∧ (∀ k, Sb k → ¬ Sj k) ∧ ∀ k, S k ↔ Sa k ∨ Sb k ∨ Sj k
  ne : ba ≠ bb
  oka : Ok j.a
  okb : Ok j.b
theorem Trio.stays {D : Dev} {J : Jrn} {w w' : World} {p ba bb : Nat} {S : Nat → Prop} {j : Jn} (h : Trio D J w p ba bb S j) (hs : w.heap.size ≤ w'.heap.size) (hk : ∀ k, S k → w'.heap[k]? = w.heap[k]?) : Trio D J w' p ba bb S j := by
  obtain ⟨Sa, Sb, Sj, h1, h2, h3, h4, h5, h6, h7⟩ := h.lies
  exact ⟨⟨Sa, Sb, Sj, D.stays h1 hs fun k hk' => hk k ((h7 k).2 (.inl hk')), D.stays h2 hs fun k hk' => hk k ((h7 k).2 (.inr (.inl hk'))), J.stays h3 hs fun k hk' => hk k ((h7 k).2 (.inr (.inr hk'))), h4, h5, h6, h7⟩, h.ne, h.oka, h.okb⟩
theorem Trio.lt {D : Dev} {J : Jrn} {w : World} {p ba bb : Nat} {S : Nat → Prop} {j : Jn} (h : Trio D J w p ba bb S j) : ∀ k, S k → k < w.heap.size := by
  obtain ⟨Sa, Sb, Sj, h1, h2, h3, h4, h5, h6, h7⟩ := h.lies
  intro k hk
  rcases (h7 k).1 hk with h | h | h
  · exact D.lt h1 k h
  · exact D.lt h2 k h
  · exact J.lt h3 k h
/-- Two devices, neither within the other. -/
structure Duo (D : Dev) (w : World) (ba bb : Nat) (S : Nat → Prop) (a b : Dk) : Prop where
  lies : ∃ Sa Sb, D.at_ w ba Sa a ∧ D.at_ w bb Sb b ∧ (∀ k, Sa k → ¬ Sb k) ∧ ∀ k, S k ↔ Sa k ∨ Sb k
  ne : ba ≠ bb
  oka : Ok a
  okb : Ok b
theorem Duo.stays {D : Dev} {w w' : World} {ba bb : Nat} {S : Nat → Prop} {a b : Dk} (h : Duo D w ba bb S a b) (hs : w.heap.size ≤ w'.heap.size) (hk : ∀ k, S k → w'.heap[k]? = w.heap[k]?) : Duo D w' ba bb S a b := by
  obtain ⟨Sa, Sb, h1, h2, h4, h7⟩ := h.lies
  exact ⟨⟨Sa, Sb, D.stays h1 hs fun k hk' => hk k ((h7 k).2 (.inl hk')), D.stays h2 hs fun k hk' => hk k ((h7 k).2 (.inr hk')), h4, h7⟩, h.ne, h.oka, h.okb⟩
theorem Duo.lt {D : Dev} {w : World} {ba bb : Nat} {S : Nat → Prop} {a b : Dk} (h : Duo D w ba bb S a b) : ∀ k, S k → k < w.heap.size := by
  obtain ⟨Sa, Sb, h1, h2, h4, h7⟩ := h.lies
  intro k hk
  rcases (h7 k).1 hk with h | h
  · exact D.lt h1 k h
  · exact D.lt h2 k h
/-- The devices of a journal alone. -/
theorem Trio.duo {D : Dev} {J : Jrn} {w : World} {p ba bb : Nat} {S : Nat → Prop} {j : Jn} (h : Trio D J w p ba bb S j) : ∃ S', Duo D w ba bb S' j.a j.b ∧ ∀ k, S' k → S k := by
  obtain ⟨Sa, Sb, Sj, h1, h2, h3, h4, h5, h6, h7⟩ := h.lies
  exact ⟨fun k => Sa k ∨ Sb k, ⟨⟨Sa, Sb, h1, h2, h4, fun k => Iff.rfl⟩, h.ne, h.oka, h.okb⟩, fun k hk => (h7 k).2 (hk.elim .inl fun h => .inr (.inl h))⟩
/-- Texts that stand in a slice. -/
def TextsIn (w : World) (pp : Option Addr) (xs : List ByteArray) : Prop := ∀ (i : Nat) (x : ByteArray), xs[i]? = some x → ∃ b off, pp = some ⟨b, off, none⟩ ∧ w.cell? ⟨b, off + i, none⟩ = some (.string x)
/-- Texts in a row of the call's own. -/
def RowT (w : World) (B : Nat) (v : Value) (xs : List ByteArray) : Prop := OwnsM w B 9 v xs.length (xs.map Value.string)
/-- Few and short enough. -/
structure Small (xs : List ByteArray) : Prop where
  few : xs.length ≤ 450
  short : ∀ x ∈ xs, x.size ≤ 5000
  total : (xs.map ByteArray.size).sum ≤ 6000
/-- The error that a number says: none of 0. -/
def JErr (w : World) (c : Int) (x : Value) : Prop := if c = 0 then x = .nilIface else ErrIs w c x
theorem JErr.zero {w : World} {c : Int} {x : Value} (h : JErr w c x) (hc : c = 0) : x = .nilIface := by rwa [JErr, if_pos hc] at h
theorem JErr.not {w : World} {c : Int} {x : Value} (h : JErr w c x) (hc : c ≠ 0) : ErrIs w c x := by rwa [JErr, if_neg hc] at h
/-- What a call of a journal leaves. -/
def DoesJ (D : Dev) (J : Jrn) (w : World) (p ba bb : Nat) (S : Nat → Prop) (j : Jn) (w' : World) : Prop := (∃ S', Trio D J w' p ba bb S' j ∧ ∀ k, S' k → S k ∨ w.heap.size ≤ k) ∧ Apart S w w'
def OpenedOk (D : Dev) (J : Jrn) : Prop := ∀ (ba bb : Nat) (S : Nat → Prop) (a b : Dk) (w : World), Duo D w ba bb S a b → Tables w → Far S →
  Calls Tryd.prog 6 #[ptr ba, ptr bb] w fun e w' =>
    (if (opened a b).1 = 0 then ∃ p v S', e = .returned (.tuple #[ptr p, v, .nilIface]) ∧ Trio D J w' p ba bb S' (opened a b).2.2 ∧ (∀ k, S' k → S k ∨ w.heap.size ≤ k) ∧ RowT w' w.heap.size v ((opened a b).2.1.map txt) ∧ ∀ k, v.ownBlock = some k → ¬ S' k
     else ∃ pp cap x, e = .returned (.tuple #[.pointer none, .slice pp 0 cap, x]) ∧ ErrIs w' (opened a b).1 x) ∧ Apart S w w'
def PutOk (D : Dev) (J : Jrn) : Prop := ∀ (p ba bb : Nat) (S : Nat → Prop) (j : Jn) (pp : Option Addr) (cap : Nat) (xs : List ByteArray) (w : World), Trio D J w p ba bb S j → Tables w → Far S → TextsIn w pp xs → Small xs → xs.length ≤ cap → (∀ a, pp = some a → 0 < xs.length → ¬ S a.block) →
  Calls Tryd.prog 8 #[ptr p, .slice pp xs.length cap] w fun e w' => (∃ x, e = .returned x ∧ JErr w' (JournalMath.put (xs.map nats) j).1 x) ∧ DoesJ D J w p ba bb S (JournalMath.put (xs.map nats) j).2 w'
def StartOk (D : Dev) (J : Jrn) : Prop := ∀ (p ba bb : Nat) (S : Nat → Prop) (j : Jn) (pp : Option Addr) (cap : Nat) (xs : List ByteArray) (w : World), Trio D J w p ba bb S j → Tables w → Far S → TextsIn w pp xs → Small xs → xs.length ≤ cap → (∀ a, pp = some a → 0 < xs.length → ¬ S a.block) →
  Calls Tryd.prog 9 #[ptr p, .slice pp xs.length cap] w fun e w' => (∃ x, e = .returned x ∧ JErr w' (JournalMath.start (xs.map nats) j).1 x) ∧ DoesJ D J w p ba bb S (JournalMath.start (xs.map nats) j).2 w'
def GenOk (D : Dev) (J : Jrn) : Prop := ∀ (p ba bb : Nat) (S : Nat → Prop) (j : Jn) (w : World), Trio D J w p ba bb S j → Calls Tryd.prog 11 #[ptr p] w fun e w' => e = .returned (.int .i64 (j.gen : Int)) ∧ Below w.heap.size w w'
def SizeOk (D : Dev) (J : Jrn) : Prop := ∀ (p ba bb : Nat) (S : Nat → Prop) (j : Jn) (w : World), Trio D J w p ba bb S j → Calls Tryd.prog 10 #[ptr p] w fun e w' => e = .returned (.int .i64 (size j.cur)) ∧ Below w.heap.size w w'
/-- One device twice, and devices that aren't there. -/
def OpenBad (D : Dev) : Prop := ∀ (ba : Nat) (S : Nat → Prop) (a : Dk) (w : World), D.at_ w ba S a → Ok a → a.off = false →
  Calls Tryd.prog 6 #[ptr ba, ptr ba] w (fun e w' => (∃ v x, e = .returned (.tuple #[.pointer none, v, x]) ∧ ErrIs w' 1 x) ∧ Below w.heap.size w w') ∧
  Calls Tryd.prog 6 #[ptr ba, .pointer none] w (fun e w' => (∃ v x, e = .returned (.tuple #[.pointer none, v, x]) ∧ ErrIs w' 5 x) ∧ Below w.heap.size w w') ∧
  Calls Tryd.prog 6 #[.pointer none, ptr ba] w (fun e w' => (∃ v x, e = .returned (.tuple #[.pointer none, v, x]) ∧ ErrIs w' 5 x) ∧ Below w.heap.size w w')
def NilOk : Prop :=
  (∀ (pp : Option Addr) (cap : Nat) (xs : List ByteArray) (w : World), TextsIn w pp xs → xs.length ≤ cap → Calls Tryd.prog 8 #[.pointer none, .slice pp xs.length cap] w fun e w' => (∃ x, e = .returned x ∧ ErrIs w' 5 x) ∧ Below w.heap.size w w') ∧
  (∀ (pp : Option Addr) (cap : Nat) (xs : List ByteArray) (w : World), TextsIn w pp xs → xs.length ≤ cap → Calls Tryd.prog 9 #[.pointer none, .slice pp xs.length cap] w fun e w' => (∃ x, e = .returned x ∧ ErrIs w' 5 x) ∧ Below w.heap.size w w') ∧
  (∀ w : World, Calls Tryd.prog 10 #[.pointer none] w fun e w' => e = .returned (.int .i64 0) ∧ Below w.heap.size w w') ∧
  (∀ w : World, Calls Tryd.prog 11 #[.pointer none] w fun e w' => e = .returned (.int .i64 0) ∧ Below w.heap.size w w')
/-- A journal of one's own. -/
structure HasJ (D : Dev) (J : Jrn) (B : Nat) (w : World) (p ba bb : Nat) (j : Jn) : Prop where
  own : ∃ S, Trio D J w p ba bb S j ∧ ∀ k, S k → B ≤ k
structure HasD (D : Dev) (B : Nat) (w : World) (ba bb : Nat) (a b : Dk) : Prop where
  own : ∃ S, Duo D w ba bb S a b ∧ ∀ k, S k → B ≤ k
section
variable {D : Dev} {J : Jrn} {B p ba bb : Nat} {j : Jn} {w w' : World}
theorem HasJ.below (h : HasJ D J B w p ba bb j) (hb : Below w.heap.size w w') : HasJ D J B w' p ba bb j := by
  obtain ⟨S, h1, h2⟩ := h.own
  exact ⟨S, h1.stays hb.size fun k hk => hb.block k (h1.lt k hk), h2⟩
theorem HasD.below {a b : Dk} (h : HasD D B w ba bb a b) (hb : Below w.heap.size w w') : HasD D B w' ba bb a b := by
  obtain ⟨S, h1, h2⟩ := h.own
  exact ⟨S, h1.stays hb.size fun k hk => hb.block k (h1.lt k hk), h2⟩
theorem HasJ.duo (h : HasJ D J B w p ba bb j) : HasD D B w ba bb j.a j.b := by
  obtain ⟨S, h1, h2⟩ := h.own
  obtain ⟨S', h3, h4⟩ := h1.duo
  exact ⟨S', h3, fun k hk => h2 k (h4 k hk)⟩
theorem apart_below {S : Nat → Prop} (hS : ∀ k, S k → B ≤ k) (hB : B ≤ w.heap.size) (h : Apart S w w') : Below B w w' := ⟨h.os, h.tape, h.output, h.size, fun k hk => h.block k (by omega) fun hs => by have := hS k hs; omega⟩
theorem DoesJ.has {S : Nat → Prop} {j' : Jn} (h : DoesJ D J w p ba bb S j' w') (hB : B ≤ w.heap.size) (hS : ∀ k, S k → B ≤ k) : HasJ D J B w' p ba bb j' ∧ Below B w w' := by
  obtain ⟨⟨S', h1, h2⟩, h3⟩ := h
  refine ⟨⟨S', h1, fun k hk => ?_⟩, apart_below hS hB h3⟩
  rcases h2 k hk with h | h
  · exact hS k h
  · omega
/-- A call of the first device. -/
theorem Duo.first {S : Nat → Prop} {a b : Dk} (h : Duo D w ba bb S a b) : ∃ Sa, D.at_ w ba Sa a ∧ ∀ w' a', Ok a' → Does D w ba Sa a' w' → (∃ S', Duo D w' ba bb S' a' b ∧ ∀ k, S' k → S k ∨ w.heap.size ≤ k) ∧ Apart S w w' := by
  obtain ⟨Sa, Sb, h1, h2, h4, h7⟩ := h.lies
  refine ⟨Sa, h1, fun w' a' ha hd => ?_⟩
  obtain ⟨⟨S1, h8, h9⟩, h10⟩ := hd
  have hlb := D.lt h2
  refine ⟨⟨fun k => S1 k ∨ Sb k, ⟨⟨S1, Sb, h8, D.stays h2 h10.size fun k hk => h10.block k (hlb k hk) fun hs => h4 k hs hk, fun k hk hb => ?_, fun k => Iff.rfl⟩, h.ne, ha, h.okb⟩, fun k hk => ?_⟩, h10.os, h10.tape, h10.output, h10.size, fun k hk hn => h10.block k hk fun hs => hn ((h7 k).2 (.inl hs))⟩
  · rcases h9 k hk with h | h
    · exact h4 k h hb
    · have := hlb k hb
      omega
  · rcases hk with hk | hk
    · rcases h9 k hk with h | h
      · exact .inl ((h7 k).2 (.inl h))
      · exact .inr h
    · exact .inl ((h7 k).2 (.inr hk))
/-- A call of a journal's first device, or of its second one. -/
theorem Trio.first {S : Nat → Prop} (h : Trio D J w p ba bb S j) : ∃ Sa, D.at_ w ba Sa j.a ∧ ∀ w' a', Ok a' → Does D w ba Sa a' w' → DoesJ D J w p ba bb S { j with a := a' } w' := by
  obtain ⟨Sa, Sb, Sj, h1, h2, h3, h4, h5, h6, h7⟩ := h.lies
  refine ⟨Sa, h1, fun w' a' ha hd => ?_⟩
  obtain ⟨⟨S1, h8, h9⟩, h10⟩ := hd
  have hlb := D.lt h2
  have hlj := J.lt h3
  refine ⟨⟨fun k => S1 k ∨ Sb k ∨ Sj k, ⟨⟨S1, Sb, Sj, h8, D.stays h2 h10.size fun k hk => h10.block k (hlb k hk) fun hs => h4 k hs hk, J.stays h3 h10.size fun k hk => h10.block k (hlj k hk) fun hs => h5 k hs hk, fun k hk hb => ?_, fun k hk hb => ?_, h6, fun k => Iff.rfl⟩, h.ne, ha, h.okb⟩, fun k hk => ?_⟩, h10.os, h10.tape, h10.output, h10.size, fun k hk hn => h10.block k hk fun hs => hn ((h7 k).2 (.inl hs))⟩
  · rcases h9 k hk with h | h
    · exact h4 k h hb
    · have := hlb k hb
      omega
  · rcases h9 k hk with h | h
    · exact h5 k h hb
    · have := hlj k hb
      omega
  · rcases hk with hk | hk
    · rcases h9 k hk with h | h
      · exact .inl ((h7 k).2 (.inl h))
      · exact .inr h
    · exact .inl ((h7 k).2 (.inr hk))
theorem Trio.second {S : Nat → Prop} (h : Trio D J w p ba bb S j) : ∃ Sb, D.at_ w bb Sb j.b ∧ ∀ w' b', Ok b' → Does D w bb Sb b' w' → DoesJ D J w p ba bb S { j with b := b' } w' := by
  obtain ⟨Sa, Sb, Sj, h1, h2, h3, h4, h5, h6, h7⟩ := h.lies
  refine ⟨Sb, h2, fun w' a' ha hd => ?_⟩
  obtain ⟨⟨S1, h8, h9⟩, h10⟩ := hd
  have hla := D.lt h1
  have hlj := J.lt h3
  refine ⟨⟨fun k => Sa k ∨ S1 k ∨ Sj k, ⟨⟨Sa, S1, Sj, D.stays h1 h10.size fun k hk => h10.block k (hla k hk) fun hs => h4 k hk hs, h8, J.stays h3 h10.size fun k hk => h10.block k (hlj k hk) fun hs => h6 k hs hk, fun k hk hb => ?_, h5, fun k hk hb => ?_, fun k => Iff.rfl⟩, h.ne, h.oka, ha⟩, fun k hk => ?_⟩, h10.os, h10.tape, h10.output, h10.size, fun k hk hn => h10.block k hk fun hs => hn ((h7 k).2 (.inr (.inl hs)))⟩
  · rcases h9 k hb with h | h
    · exact h4 k hk h
    · have := hla k hk
      omega
  · rcases h9 k hk with h | h
    · exact h6 k h hb
    · have := hlj k hb
      omega
  · rcases hk with hk | hk | hk
    · exact .inl ((h7 k).2 (.inl hk))
    · rcases h9 k hk with h | h
      · exact .inl ((h7 k).2 (.inr (.inl h)))
      · exact .inr h
    · exact .inl ((h7 k).2 (.inr (.inr hk)))
theorem Duo.swap {S : Nat → Prop} {a b : Dk} (h : Duo D w ba bb S a b) : Duo D w bb ba S b a := by
  obtain ⟨Sa, Sb, h1, h2, h4, h7⟩ := h.lies
  exact ⟨⟨Sb, Sa, h2, h1, fun k hk hs => h4 k hs hk, fun k => (h7 k).trans Or.comm⟩, fun e => h.ne e.symm, h.okb, h.oka⟩
theorem HasD.swap {a b : Dk} (h : HasD D B w ba bb a b) : HasD D B w bb ba b a := by
  obtain ⟨S, h1, h2⟩ := h.own
  exact ⟨S, h1.swap, h2⟩
/-- The first device of one's own crashes. -/
theorem HasD.crash {a b : Dk} (hC : CrashOk D) (h : HasD D B w ba bb a b) (hB : B ≤ w.heap.size) (k : Int) (m : ByteArray) (hk : I64 k) (hm : m.size ≤ 1000000) :
    Calls Tryd.prog 12 #[ptr ba, .int .i64 k, .string m] w fun e w' => e = .returned (.tuple #[]) ∧ HasD D B w' ba bb (crash k m a) b ∧ Below B w w' := by
  obtain ⟨S, h1, h2⟩ := h.own
  obtain ⟨Sa, h3, h4⟩ := h1.first
  refine (hC ba Sa a k m w h3 h1.oka hk hm).mono ?_
  rintro e w' ⟨rfl, hd⟩
  obtain ⟨⟨S', h5, h6⟩, h7⟩ := h4 w' _ (h1.oka.crash k m) hd
  refine ⟨rfl, ⟨S', h5, fun k hk => ?_⟩, apart_below h2 hB h7⟩
  rcases h6 k hk with h | h
  · exact h2 k h
  · omega
/-- A device of two crashes. -/
theorem Duo.crash {S : Nat → Prop} {a b : Dk} (hC : CrashOk D) (h : Duo D w ba bb S a b) (k : Int) (m : ByteArray) (hk : I64 k) (hm : m.size ≤ 1000000) :
    Calls Tryd.prog 12 #[ptr ba, .int .i64 k, .string m] w fun e w' => e = .returned (.tuple #[]) ∧ (∃ S', Duo D w' ba bb S' (BlockMath.crash k m a) b ∧ ∀ k, S' k → S k ∨ w.heap.size ≤ k) ∧ Apart S w w' := by
  obtain ⟨Sa, h3, h4⟩ := h.first
  refine (hC ba Sa a k m w h3 h.oka hk hm).mono ?_
  rintro e w' ⟨rfl, hd⟩
  exact ⟨rfl, h4 w' _ (h.oka.crash k m) hd⟩
theorem not_in {S S' : Nat → Prop} {n k : Nat} (hS : ∀ k, S' k → S k ∨ n ≤ k) (hk : k < n) (hn : ¬ S k) : ¬ S' k := fun h => by
  rcases hS k h with h | h
  · exact hn h
  · omega
/-- Open over two devices of one's own. -/
theorem HasD.opens {a b : Dk} (hO : OpenedOk D J) (hT : Tables w) (hlt : 1 < B ∧ 2 < B) (h : HasD D B w ba bb a b) (hB : B ≤ w.heap.size) :
    Calls Tryd.prog 6 #[ptr ba, ptr bb] w fun e w' =>
      (if (opened a b).1 = 0 then ∃ p v S', e = .returned (.tuple #[ptr p, v, .nilIface]) ∧ Trio D J w' p ba bb S' (opened a b).2.2 ∧ (∀ k, S' k → B ≤ k) ∧ RowT w' w.heap.size v ((opened a b).2.1.map txt) ∧ ∀ k, v.ownBlock = some k → ¬ S' k
       else ∃ pp cap x, e = .returned (.tuple #[.pointer none, .slice pp 0 cap, x]) ∧ ErrIs w' (opened a b).1 x) ∧ Below B w w' := by
  obtain ⟨S, h1, h2⟩ := h.own
  refine (hO ba bb S a b w h1 hT (far_of hlt h2)).mono ?_
  rintro e w' ⟨h3, h4⟩
  refine ⟨?_, apart_below h2 hB h4⟩
  split at h3
  · rename_i h0
    rw [if_pos h0]
    obtain ⟨p, v, S', q1, q2, q3, q4, q5⟩ := h3
    refine ⟨p, v, S', q1, q2, fun k hk => ?_, q4, q5⟩
    rcases q3 k hk with h | h
    · exact h2 k h
    · omega
  · rename_i h0
    rw [if_neg h0]
    exact h3
end
end Go.Proofs.YtajkldmpllphjaaDoor
namespace Go.Proofs.YtajkldmpllphjaaDoor
open Go.RowKit

theorem text_list {a b : ByteArray} (h : ¬ a = b) : ¬ a.toList = b.toList := fun k => h (by
  rw [ByteArray.toList_eq, ByteArray.toList_eq] at k
  cases a; cases b; simpa using k)
theorem none_list {a : ByteArray} (h : a = ⟨#[]⟩) : a.toList.isEmpty = true := by
  subst h
  rw [ByteArray.toList_eq]
  rfl
theorem some_list {a : ByteArray} (h : ¬ a = ⟨#[]⟩) : a.toList.isEmpty = false := by
  rw [ByteArray.toList_eq]
  cases e : a.data.toList.isEmpty with
  | false => rfl
  | true =>
    exfalso
    apply h
    cases a
    simpa using e
theorem add_text (a b : ByteArray) (h : a.size + b.size ≤ 9223372036854775807) (w : World) : (binOp .add 9 (.string a) (.string b)).run Tryd.prog w = .ok (.string (a ++ b)) w := by
  go_simp
theorem eql_text (a b : ByteArray) (w : World) : (binOp .eql 9 (.string a) (.string b)).run Tryd.prog w = .ok (.bool (decide (a = b))) w := by
  by_cases h : a = b
  · subst h
    go_simp
  · have k := text_list h
    go_simp
    all_goals simp_all
theorem neq_text (a b : ByteArray) (w : World) : (binOp .neq 9 (.string a) (.string b)).run Tryd.prog w = .ok (.bool (!decide (a = b))) w := by
  by_cases h : a = b
  · subst h
    go_simp
  · have k := text_list h
    go_simp
    all_goals simp_all
end Go.Proofs.YtajkldmpllphjaaDoor
namespace Go.Proofs.YtajkldmpllphjaaDoor
open Go.RowKit BlockMath TextNat JournalMath

/-- A device's pointer lies in its own memory. -/
def Owns (D : Dev) : Prop := ∀ (w : World) (b : Nat) (S : Nat → Prop) (d : Dk), D.at_ w b S d → S b
set_option maxRecDepth 100000 in
theorem two_ok {D : Dev} (hW : Owns D) (hN : NewOk D) (R : Int) (w : World) (h0 : 0 ≤ R) (h1 : R ≤ 1048576) :
    Calls Tryd.prog 5 #[.int .i64 R] w fun e w' => (∃ ba bb, e = .returned (.tuple #[ptr ba, ptr bb]) ∧ HasD D w.heap.size w' ba bb (new R) (new R)) ∧ Below w.heap.size w w' := by
  have HI : I64 R := by unfold I64; omega
  have HN := Lib.hid (fun w1 : World => (hN R w1 HI).mono (R' := fun e w' => (∃ b, e = .returned (.tuple #[ptr b, .nilIface]) ∧ Has D w1.heap.size w' b (new R)) ∧ Below w1.heap.size w1 w') (by
    rintro e w' ⟨h, hb⟩
    rw [if_pos ⟨h0, h1⟩] at h
    exact ⟨h, hb⟩))
  go_enter Tryd.func5, Tryd.ntmps5
  go_wp2_with fail
  refine (HN.out w).mono ?_
  rintro e w1 ⟨⟨ba, rfl, ha⟩, hb1⟩
  replace ha := Lib.hid ha
  replace hb1 := Lib.hid hb1
  go_wp2_with fail
  refine (HN.out w1).mono ?_
  rintro e w2 ⟨⟨bb, rfl, hb⟩, hb2⟩
  replace hb := Lib.hid hb
  replace hb2 := Lib.hid hb2
  go_wp2
  go_ret2
  obtain ⟨Sa, a1, a2⟩ := ha.out.own
  obtain ⟨Sb, b1, b2⟩ := hb.out.own
  have hla := D.lt a1
  have hd : ∀ k, Sa k → ¬ Sb k := fun k hk hs => by
    have := hla k hk
    have := b2 k hs
    omega
  have ok := Ok.new h0 h1
  refine ⟨⟨ba, bb, rfl, fun k => Sa k ∨ Sb k, ⟨⟨Sa, Sb, D.stays a1 hb2.out.size fun k hk => hb2.out.block k (hla k hk), b1, hd, fun k => Iff.rfl⟩, fun e => hd ba (hW _ _ _ _ a1) (by rw [e]; exact hW _ _ _ _ b1), ok, ok⟩, fun k hk => ?_⟩, hb1.out.trans (hb2.out.mono hb1.out.size)⟩
  rcases hk with hk | hk
  · exact a2 k hk
  · have := b2 k hk
    have := hb1.out.size
    omega
end Go.Proofs.YtajkldmpllphjaaDoor
namespace Go.Proofs.YtajkldmpllphjaaDoor
open Go.RowKit BlockMath TextNat JournalMath

theorem RowT.shape {w : World} {B : Nat} {v : Value} {xs : List ByteArray} (h : RowT w B v xs) : ∃ pp cap, v = .slice pp xs.length cap ∧ xs.length ≤ cap ∧ ((pp = none ∧ cap = 0) ∨ ∃ g, pp = some ⟨g, 0, none⟩) := by
  rcases h.2 with ⟨h1, h2⟩ | ⟨g, cap, cur, lo, hi, h1, _, _, _, h4, _⟩
  · exact ⟨none, 0, by rw [h2]; exact h1, by omega, .inl ⟨rfl, rfl⟩⟩
  · exact ⟨some ⟨g, 0, none⟩, cap, h1, h4, .inr ⟨g, rfl⟩⟩
theorem RowT.texts {w : World} {B n cap : Nat} {pp : Option Addr} {xs : List ByteArray} (h : RowT w B (.slice pp n cap) xs) : TextsIn w pp xs := by
  intro i x hx
  have hi := (List.getElem?_eq_some_iff.1 hx).1
  obtain ⟨g, cap', h1, _, _, _, _, hc, _⟩ := OwnsM.open h (by omega)
  simp only [Value.slice.injEq] at h1
  obtain ⟨rfl, _, _⟩ := h1
  refine ⟨g, 0, rfl, ?_⟩
  rw [Nat.zero_add, hc i hi, List.getElem?_map, hx]
  rfl
theorem TextsIn.grown {w w' : World} {pp : Option Addr} {xs : List ByteArray} (h : TextsIn w pp xs) (hb : Below w.heap.size w w') : TextsIn w' pp xs := fun i x hx => by
  obtain ⟨b, off, hp, h1⟩ := h i x hx
  exact ⟨b, off, hp, (hb.cell (p := ⟨b, off + i, none⟩) (World.block_lt_of_cell? w _ h1)).trans h1⟩
/-- What the example comes to, over the mathematics. -/
theorem awake_math : ∃ j1, opened (new 10000) (new 10000) = (0, [], j1) ∧ j1.gen = 1 ∧ (JournalMath.put [[120]] j1).1 = 0 ∧ ∃ j2, opened (crash 0 ByteArray.empty (JournalMath.put [[120]] j1).2.a) (crash 0 ByteArray.empty (JournalMath.put [[120]] j1).2.b) = (0, [[120]], j2) := by
  rcases open_new (R := 10000) (by decide) (by decide) with ⟨j, h1, h2, h3, h4, h5, h6, h7, h8, _, h9⟩ | ⟨_, h⟩
  · refine ⟨j, h1, h3, ?_⟩
    have hcur : j.cur = j.b := by unfold Jn.cur; rw [h4]; rfl
    rcases put_step (l := [[120]]) h2 (fun t ht b hb => by simp at ht; subst ht; simp at hb; omega) with ⟨e, hl, _⟩ | ⟨e, _, hx⟩ | ⟨e, _, _, _, _, hx⟩ | ⟨e, _, hx, _⟩
    · refine ⟨e, ?_⟩
      obtain ⟨j2, m, q1, _, q3, _⟩ := hl.after 0 0 ByteArray.empty ByteArray.empty
      exact ⟨j2, by rw [q1, q3]; rfl⟩
    · exfalso
      rcases hx with hx | hx
      · simp at hx
      · cases hx
    · exfalso
      obtain ⟨ps, c1, _⟩ := h2.cur
      have := (hx _ c1).2
      have := h9 _ c1
      rw [hcur, h8] at *
      simp [total] at *
      omega
    · exfalso
      rw [hcur] at hx
      exact hx h6
  · omega
set_option maxRecDepth 100000 in
set_option maxHeartbeats 4000000 in
theorem awake_true {D : Dev} {J : Jrn} (hW : Owns D) (hN : NewOk D) (hC : CrashOk D) (hO : OpenedOk D J) (hP : PutOk D J) (hG : GenOk D J) (w : World) (hTb : Tables w) :
    Calls Tryd.prog 4 #[] w fun e w' => e = .returned (.bool true) ∧ Below w.heap.size w w' := by
  obtain ⟨j1, m1, m2, m3, j2, m4⟩ := awake_math
  have H2 := Lib.hid (two_ok hW hN 10000 w (by decide) (by decide))
  have HTB := Lib.hid hTb
  replace hO := Lib.hid hO
  replace hP := Lib.hid hP
  replace hG := Lib.hid hG
  replace hC := Lib.hid hC
  go_enter Tryd.func4, Tryd.ntmps4
  go_wp2_with fail
  refine H2.out.mono ?_
  rintro e w1 ⟨⟨ba, bb, rfl, h1⟩, hb1⟩
  replace h1 := Lib.hid h1
  have HB := Lib.hid hb1
  clear hb1
  go_wp2_with fail
  refine (h1.out.opens hO.out (HTB.out.grown HB.out) HTB.out.lt HB.out.size).mono ?_
  rintro e w2 ⟨h2, hb⟩
  replace HB := Lib.hid (HB.out.trans hb)
  rw [m1, if_pos rfl] at h2
  obtain ⟨p, v, S, rfl, ht, hS, hr, -⟩ := h2
  obtain ⟨pp, cap, rfl, -, -⟩ := hr.shape
  have HT := Lib.hid (show Trio D J w2 p ba bb S j1 from ht)
  have HS := Lib.hid hS
  clear hb h1 ht hS hr
  go_wp2_with fail
  refine (hG.out p ba bb S j1 w2 HT.out).mono ?_
  rintro e w3 ⟨rfl, hb⟩
  rw [m2]
  have HT3 := Lib.hid (HT.out.stays hb.size fun k hk => hb.block k (HT.out.lt k hk))
  replace HB := Lib.hid (HB.out.trans (hb.mono HB.out.size))
  have hal : Below w3.heap.size w3 (w3.alloc (.cells #[.string ⟨#[120]⟩] 9)) := (Below.refl _ _).alloc (Nat.le_refl _) _
  have HT4 := Lib.hid (HT3.out.stays hal.size fun k hk => hal.block k (HT3.out.lt k hk))
  have HB4 := Lib.hid (HB.out.trans (hal.mono HB.out.size))
  have HL4 := Lib.hid (Lies.new w3 [.string ⟨#[120]⟩] 9)
  clear hb hal HT
  go_wp2_with fail
  have hx1 : ([⟨#[120]⟩] : List ByteArray).map nats = [[120]] := rfl
  refine (hP.out p ba bb S j1 (some ⟨w3.heap.size, 0, none⟩) 1 [⟨#[120]⟩] _ HT4.out (HTB.out.grown HB4.out) (far_of HTB.out.lt HS.out) (fun i x hx => ?_) ⟨by decide, fun x hx => ?_, by decide⟩ (Nat.le_refl _) (fun a ha _ hs => ?_)).mono ?_
  · match i, hx with
    | 0, hx => exact ⟨w3.heap.size, 0, rfl, by rw [← Option.some.inj hx]; exact HL4.out.cell (i := 0) rfl⟩
    | i + 1, hx => cases hx
  · rw [List.mem_singleton] at hx
    subst hx
    decide
  · rw [← Option.some.inj ha] at hs
    have := HT3.out.lt _ hs
    exact Nat.lt_irrefl _ this
  rintro e w4 ⟨⟨x, rfl, hx⟩, hd⟩
  rw [hx1] at hx hd
  obtain rfl := hx.zero m3
  obtain ⟨hj, hb⟩ := hd.has (B := w.heap.size) HB4.out.size HS.out
  have HD5 := Lib.hid hj.duo
  have HB5 := Lib.hid (HB4.out.trans hb)
  clear hx hd hj hb HT3 HT4 HB HB4 HL4 hx1
  go_wp2_with fail
  refine (HD5.out.crash hC.out HB5.out.size 0 ByteArray.empty (by unfold I64; decide) (by decide)).mono ?_
  rintro e w5 ⟨rfl, hd, hb⟩
  have HD6 := Lib.hid hd.swap
  have HB6 := Lib.hid (HB5.out.trans hb)
  clear hd hb HD5 HB5
  go_wp2_with fail
  refine (HD6.out.crash hC.out HB6.out.size 0 ByteArray.empty (by unfold I64; decide) (by decide)).mono ?_
  rintro e w6 ⟨rfl, hd, hb⟩
  have HD7 := Lib.hid hd.swap
  have HB7 := Lib.hid (HB6.out.trans hb)
  clear hd hb HD6 HB6
  go_wp2_with fail
  refine (HD7.out.opens hO.out (HTB.out.grown HB7.out) HTB.out.lt HB7.out.size).mono ?_
  rintro e w7 ⟨h2, hb⟩
  have HB8 := Lib.hid (HB7.out.trans hb)
  rw [m4, if_pos rfl] at h2
  obtain ⟨p2, v2, S2, rfl, -, -, hr, -⟩ := h2
  have hr' : RowT w7 w6.heap.size v2 [⟨#[120]⟩] := hr
  obtain ⟨pp2, cap2, rfl, hcc, hg⟩ := hr'.shape
  obtain ⟨g, rfl⟩ : ∃ g, pp2 = some ⟨g, 0, none⟩ := hg.elim (fun h => by rw [h.2] at hcc; exact absurd hcc (by decide)) id
  clear hcc
  have c1 : w7.cell? ⟨g, 0, none⟩ = some (.string ⟨#[120]⟩) := by
    obtain ⟨b, off, q1, q2⟩ := hr'.texts 0 ⟨#[120]⟩ rfl
    simp only [Option.some.injEq, Addr.mk.injEq] at q1
    obtain ⟨rfl, rfl, -⟩ := q1
    exact q2
  clear hb hr hr' HD7 HB7
  go_wp2
  go_ret
  exact ⟨by first | rfl | simp, HB8.out⟩
end Go.Proofs.YtajkldmpllphjaaDoor
namespace Go.Proofs.YtajkldmpllphjaaDoor
open Go.RowKit BlockMath TextNat

theorem info_str : (Tryd.prog.info? 9).map (fun i => (i.zero, i.size, i.bytes)) = some (some (.string ⟨#[]⟩), 1, 16) := by kernel_rfl
theorem str_parts : ∃ i, Tryd.prog.info? 9 = some i ∧ i.zero = some (.string ⟨#[]⟩) ∧ i.size = 1 ∧ i.bytes = 16 := by
  have h := info_str
  cases hi : Tryd.prog.info? 9 with
  | none => rw [hi] at h; cases h
  | some i =>
    rw [hi] at h
    simp only [Option.map_some, Option.some.injEq, Prod.mk.injEq] at h
    exact ⟨i, rfl, h.1, h.2.1, h.2.2⟩
theorem RowT.nil (w : World) (B : Nat) : RowT w B (.slice none 0 0) [] := ⟨rfl, .inl ⟨rfl, rfl⟩⟩
theorem RowT.below {w w' : World} {B : Nat} {v : Value} {xs : List ByteArray} (h : RowT w B v xs) (hb : Below w.heap.size w w') : RowT w' B v xs := OwnsM.below h hb fun k hk => (OwnsM.lt h k hk).2
theorem RowT.apart {w w' : World} {B : Nat} {S : Nat → Prop} {v : Value} {xs : List ByteArray} (h : RowT w B v xs) (ha : Apart S w w') (hn : ∀ k, v.ownBlock = some k → ¬ S k) : RowT w' B v xs := by
  refine ⟨h.1, ?_⟩
  rcases h.2 with h2 | ⟨g, cap, cur, lo, hi, h1, h2, h3, h4⟩
  · exact .inl h2
  · refine .inr ⟨g, cap, cur, lo, hi, h1, h2, ?_, h4⟩
    rw [ha.block g (Array.getElem?_eq_some_iff.1 h3).1 (hn g (by rw [h1]; rfl))]
    exact h3
theorem run_append_m_none {P : Program} (w : World) (base : Nat) (t ty e : TypeId) (i : TypeInfo) (ht : P.underlying t = some (.slice e)) (hi : P.info? e = some i) (v : Value) (n : Nat) (xs : List Value) (hown : OwnsM w base e v n xs) :
    (Builtin.append_ #[t, t] ty #[v, .slice none 0 0]).run P w = .ok v w := by
  rcases hown.2 with ⟨rfl, rfl⟩ | ⟨g, cap, cur, lo, hi', rfl, _, hg, _, hnc, _⟩
  · simp [Builtin.append_, run_underlying ht, sizeOf, typeInfo, hi, Builtin.lenOf, Builtin.firstCells]
  · simp [Builtin.append_, run_underlying ht, sizeOf, typeInfo, hi, Builtin.lenOf, Builtin.firstCells, storeCells, hnc]
/-- append of texts onto a row of one's own. -/
theorem app_row {ops : Array Oper} {rest : List Oper} {o : Oper} {ac : Act} {Q : Exit → Act → World → Prop} {w : World} (hgd : o.guard = none) (s x : Operand)
    (ho : o.op = .call { callee := .builtin .append, args := #[s, x], argTypes := #[27, 27] })
    (B : Nat) (v : Value) (xs : List ByteArray) (hs : ac.eval s = v) (hown : RowT w B v xs) (pp : Option Addr) (c : Nat) (ys : List ByteArray) (hx : ac.eval x = .slice pp ys.length c) (hnews : TextsIn w pp ys) (hc : pp = none → c = 0) (hyc : ys.length ≤ c) (hz : xs.length + ys.length ≤ 1000000) (hB : B ≤ w.heap.size)
    (h : ∀ v' w', RowT w' B v' (xs ++ ys) → w.grownBy w' v.ownBlock → (∀ k, v'.ownBlock = some k → v.ownBlock = some k ∨ w.heap.size ≤ k) → wpList Tryd.prog ops Q rest (ac.put o.dst v') w') : wpList Tryd.prog ops Q (o :: rest) ac w := by
  obtain ⟨ib, hib, hb0, hb1, hb2⟩ := str_parts
  cases pp with
  | none =>
    have hc0 := hc rfl
    subst hc0
    have hy : ys = [] := List.eq_nil_of_length_eq_zero (by omega)
    subst hy
    refine wpList_plain hgd fun K hK => ?_
    have hr := run_append_m_none (P := Tryd.prog) w B 27 o.type 9 ib Tryd.underlying27 hib v xs.length _ hown
    unfold Oper.wp execOp
    have hx' : ac.eval x = .slice none 0 0 := hx
    simp only [ho, resolve, invoke, builtin, Sem.run_bind, Sem.run_pure, Result.andThen_ok, List.map_toArray, List.map_cons, List.map_nil, hs, hx', hr]
    exact hK _ _ (h v w (by rw [List.append_nil]; exact hown) ⟨rfl, rfl, rfl, Nat.le_refl _, fun _ _ _ => rfl⟩ fun k hk => .inl hk)
  | some ad =>
    have hcells : ∀ (j : Nat) (u : Value), (ys.map Value.string)[j]? = some u → w.cell? (ad.add j) = some u := by
      intro j u hu
      rw [List.getElem?_map] at hu
      obtain ⟨y, hy, rfl⟩ := Option.map_eq_some_iff.1 hu
      obtain ⟨b, off, hp, h1⟩ := hnews j y hy
      obtain rfl := Option.some.inj hp
      rw [WideShapes.add_plain]
      exact h1
    refine wpList_append_far hgd s x 27 ho B 9 ib (.string ⟨#[]⟩) 16 Tryd.underlying27 hib hb0 hb1 hb2 rfl v xs.length (xs.map Value.string) hs hown ad ys.length c (ys.map Value.string) hx (by rw [List.length_map]) hcells (fun u hu => by
      obtain ⟨y, _, rfl⟩ := List.mem_map.1 hu
      rfl) (by unfold maxLen; omega) (by omega) hB ?_
    intro v' w' h1 h2 h3
    refine h v' w' ?_ h2 h3
    unfold RowT
    rw [List.length_append, List.map_append]
    exact h1
end Go.Proofs.YtajkldmpllphjaaDoor
