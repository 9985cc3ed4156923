/-
  Texts of one claim, merged.
  RowBase: What each row that lists no variable begins with: a world to begin in, the bound on a text that came in. No conditions.
  WireGood: Plain mathematics of chapter 5: readers that read just what is written, one behind the other; writes and claims. No program, no conditions but those typed.
  JournalRead: Plain mathematics of chapter 10: what is read as a part is just what is written of it, whatever more its readers may read; parts read one by one; a search behind their end. No program is run here.
  FrameLaws: The contracts of the program's functions of chapter 9, as sentences that its laws start from. No conditions but those typed.
  WirePut: Plain mathematics of chapter 5: what one call puts: some numbers, and bytes behind them. No program, no conditions but those typed.
  WireEncMath: Plain mathematics of chapter 5: what a right write's things, put one behind the other, come to. No program, no conditions but those typed.
  JournalWire: A part of chapter 10 as layer 5 writes it, put by put. No program is run here.
  Ints: A slice of ints in memory: what its cells hold, and that they stay. No program is run here.
  Arr: Arrays of integers that lie in a block of their own (a variable, a parameter, a result), for any program: what their cells are, a store into one, what another store or a call leaves; the whole loaded, stored, returned; copy of a text onto the front of one of bytes. No conditions but those typed.
  OwnBytes: A row of bytes that the call itself made, as bytes: opened, and with one byte written. No conditions but those typed.
  GrowInts: For rows of ints that the call itself makes, over this program: what 'append' asks of the element's type, one new cell. No conditions but those typed.
  Grow: For rows that the call itself makes, of bytes or of ints, over this program: what 'append' asks of the element's type, one new cell, a row of bytes as a text. No conditions but those typed.
-/
import Derived.Test.YtajkldmpllphjaaDoorPart01
import Derived.Test.YtajkldmpllphjaaDoorRows
import Derived.SevenTiedAt
import Derived.ChangeMaps5
import Derived.Test.YtajkldmpllphjaaDoorPart02
import Derived.Test.YtajkldmpllphjaaDoorPart03
import Derived.Test.YtajkldmpllphjaaDoorProg
import Derived.WalkKit
import Derived.Handy
import Derived.Outline
import Derived.WideLaws
import Derived.Laws.Rows
import Derived.Laws.CopyOwn
import Derived.Laws.CopyRow
import Derived.Deep.RegionLaw
import Derived.Below
import Derived.RowKit
import Derived.OwnWalk
import Derived.Laws.OwnMore
import Derived.Lib.Hide
import Derived.Deep.LoopGhost
import Derived.Deep.RegionWith
import Derived.StillTailTactics
import Derived.BigQuiet
import Derived.Laws.IdiomStrings
namespace Go.Proofs.YtajkldmpllphjaaDoor
open Go.ChangeShapes Go.WideShapes Go.RowKit Go.ChangeMaps

theorem small_text {n : Nat} (h : n ≤ maxLen) : n ≤ 9223372036854775807 := by unfold maxLen at h; omega
noncomputable def plainWorld (os : Os) : World := World.holding Tryd.prog os ⟨#[], #[], []⟩
end Go.Proofs.YtajkldmpllphjaaDoor
namespace WireMath

/-- A reader 'p' of 'l' that reads just what 'e' writes of what may be ('P'). -/
structure Good {α : Type} (l : List Nat) (p : At → α × At) (e : α → List Nat) (P : α → Prop) : Prop where
  sound : ∀ (a : Nat) (v : α) (b : Nat), a ≤ l.length → p ⟨a, none⟩ = (v, ⟨b, none⟩) → P v ∧ l.drop a = e v ++ l.drop b ∧ b ≤ l.length
  back : ∀ (a : Nat) (v : α) (r : List Nat), a ≤ l.length → P v → l.drop a = e v ++ r → p ⟨a, none⟩ = (v, ⟨a + (e v).length, none⟩)
  stuck : ∀ (a b : Nat), ∃ v c d, p ⟨a, some b⟩ = (v, ⟨c, some d⟩)

theorem drop_more {l r s : List Nat} {a : Nat} (ha : a ≤ l.length) (h : l.drop a = s ++ r) : l.drop (a + s.length) = r ∧ a + s.length ≤ l.length := by
  constructor
  · rw [← List.drop_drop, h, List.drop_left]
  · have := congrArg List.length h
    rw [List.length_drop, List.length_append] at this
    omega

/-- One reader, then another one. -/
def seq {α β : Type} (p : At → α × At) (q : At → β × At) (st : At) : (α × β) × At := (((p st).1, (q (p st).2).1), (q (p st).2).2)
theorem Good.seq {α β : Type} {l : List Nat} {p : At → α × At} {e : α → List Nat} {P : α → Prop} {q : At → β × At} {f : β → List Nat} {Q : β → Prop} (h : Good l p e P) (k : Good l q f Q) :
    Good l (WireMath.seq p q) (fun v => e v.1 ++ f v.2) (fun v => P v.1 ∧ Q v.2) := by
  refine ⟨?_, ?_, ?_⟩
  · intro a v b ha hv
    unfold WireMath.seq at hv
    rcases hp : p ⟨a, none⟩ with ⟨x, c, bad⟩
    rw [hp] at hv
    simp only at hv
    cases bad with
    | some d =>
      obtain ⟨y, c2, d2, hq⟩ := k.stuck c d
      rw [hq] at hv
      simp at hv
    | none =>
      obtain ⟨h1, h2, h3⟩ := h.sound a x c ha hp
      rcases hq : q ⟨c, none⟩ with ⟨y, st2⟩
      rw [hq] at hv
      simp only [Prod.mk.injEq] at hv
      obtain ⟨rfl, rfl⟩ := hv
      obtain ⟨k1, k2, k3⟩ := k.sound c y b h3 hq
      exact ⟨⟨h1, k1⟩, by rw [h2, k2, List.append_assoc], k3⟩
  · intro a v r ha hP hl
    rw [List.append_assoc] at hl
    have h1 := h.back a v.1 _ ha hP.1 hl
    obtain ⟨h2, h3⟩ := drop_more ha hl
    have h4 := k.back _ v.2 r h3 hP.2 h2
    unfold WireMath.seq
    rw [h1]
    simp only
    rw [h4]
    simp only [List.length_append, Nat.add_assoc]
  · intro a b
    obtain ⟨v, c, d, hp⟩ := h.stuck a b
    obtain ⟨y, c2, d2, hq⟩ := k.stuck c d
    exact ⟨(v, y), c2, d2, by unfold WireMath.seq; rw [hp]; simp only; rw [hq]⟩

/-- Numbers. -/
theorem good_num (l : List Nat) (hl : ∀ b ∈ l, b < 256) (most : Int) : Good l (fun st => readNum l st most) num (fun v => (v : Int) ≤ most ∧ v ≤ top) := by
  refine ⟨?_, ?_, ?_⟩
  · intro a v b ha hv
    unfold readNum at hv
    simp only at hv
    cases hn : next (l.drop a) most with
    | none => rw [hn] at hv; simp at hv
    | some p =>
      obtain ⟨v2, k⟩ := p
      rw [hn] at hv
      simp only [Prod.mk.injEq, At.mk.injEq] at hv
      obtain ⟨rfl, rfl, _⟩ := hv
      obtain ⟨h1, h2, h3, r, h4⟩ := next_says (fun b hb => hl b (List.mem_of_mem_drop hb)) hn
      obtain ⟨h5, h6⟩ := drop_more ha h4
      rw [← h3] at h5 h6
      exact ⟨⟨h1, h2⟩, by rw [h5]; exact h4, h6⟩
  · intro a v r ha hP hv
    show readNum l ⟨a, none⟩ most = _
    unfold readNum
    simp only
    rw [hv, next_num v r most hP.1 hP.2]
  · intro a b
    exact ⟨0, a, b, rfl⟩
theorem readNum_stuck (l : List Nat) (a b : Nat) (most : Int) : readNum l ⟨a, some b⟩ most = (0, ⟨a, some b⟩) := rfl

/-- Texts. -/
def textBytes (t : List Nat) : List Nat := num t.length ++ t
theorem good_text (l : List Nat) (hl : ∀ b ∈ l, b < 256) (most : Int) : Good l (fun st => readText l st most) textBytes (fun t => (t.length : Int) ≤ most ∧ t.length ≤ top) := by
  have hn := good_num l hl most
  refine ⟨?_, ?_, ?_⟩
  · intro a v b ha hv
    unfold readText at hv
    simp only at hv
    rcases hr : readNum l ⟨a, none⟩ most with ⟨x, c, bad⟩
    rw [hr] at hv
    cases bad with
    | some d => simp at hv
    | none =>
      simp only at hv
      obtain ⟨⟨h1, h1'⟩, h2, h3⟩ := hn.sound a x c ha hr
      split at hv
      · simp at hv
      · rename_i hlt
        simp only [Prod.mk.injEq, At.mk.injEq] at hv
        obtain ⟨rfl, rfl, _⟩ := hv
        have hx : ((l.drop c).take x).length = x := by rw [List.length_take, List.length_drop]; omega
        refine ⟨by rw [hx]; exact ⟨h1, h1'⟩, ?_, by omega⟩
        unfold textBytes
        rw [hx, h2, List.append_assoc, ← List.drop_drop, List.take_append_drop]
  · intro a v r ha hP hv
    unfold textBytes at hv
    rw [List.append_assoc] at hv
    have h1 := hn.back a v.length _ ha hP hv
    obtain ⟨h2, h3⟩ := drop_more ha hv
    obtain ⟨h4, h5⟩ := drop_more h3 h2
    show readText l ⟨a, none⟩ most = _
    unfold readText
    simp only [h1]
    rw [if_neg (by omega), h2, List.take_left]
    unfold textBytes
    rw [List.length_append, Nat.add_assoc]
  · intro a b
    exact ⟨[], a, b, rfl⟩

/-- Flags. -/
def flagBytes (b : Bool) : List Nat := num (if b then 1 else 0)
theorem good_flag (l : List Nat) (hl : ∀ b ∈ l, b < 256) : Good l (fun st => readFlag l st) flagBytes (fun _ => True) := by
  have hn := good_num l hl 1
  refine ⟨?_, ?_, ?_⟩
  · intro a v b ha hv
    unfold readFlag at hv
    rcases hr : readNum l ⟨a, none⟩ 1 with ⟨x, c, bad⟩
    rw [hr] at hv
    simp only [Prod.mk.injEq, At.mk.injEq] at hv
    obtain ⟨rfl, rfl, rfl⟩ := hv
    obtain ⟨⟨h1, _⟩, h2, h3⟩ := hn.sound a x c ha hr
    refine ⟨trivial, ?_, h3⟩
    have : x = 0 ∨ x = 1 := by omega
    rcases this with rfl | rfl
    · exact h2
    · exact h2
  · intro a v r ha _ hv
    have h1 := hn.back a (if v then 1 else 0) r ha (by cases v <;> decide) hv
    show readFlag l ⟨a, none⟩ = _
    unfold readFlag
    rw [h1]
    cases v <;> rfl
  · intro a b
    exact ⟨false, a, b, rfl⟩

/-- Vectors. -/
def countsBytes (v : List Nat) : List Nat := v.flatMap num
theorem counts_sound (l : List Nat) (hl : ∀ b ∈ l, b < 256) : ∀ (n a b : Nat) (v : List Nat), a ≤ l.length → readCounts l n ⟨a, none⟩ = (v, ⟨b, none⟩) → v.length = n ∧ (∀ z ∈ v, z ≤ big) ∧ l.drop a = countsBytes v ++ l.drop b ∧ b ≤ l.length
  | 0, a, b, v, ha, h => by
    simp only [readCounts, Prod.mk.injEq, At.mk.injEq, and_true] at h
    obtain ⟨rfl, rfl⟩ := h
    exact ⟨rfl, (fun z hz => by cases hz), rfl, ha⟩
  | n + 1, a, b, v, ha, h => by
    rw [readCounts_step] at h
    rcases hr : readNum l ⟨a, none⟩ big with ⟨x, c, bad⟩
    rw [hr] at h
    simp only [Prod.mk.injEq] at h
    obtain ⟨rfl, h⟩ := h
    cases bad with
    | some d =>
      exfalso
      have hs : ∀ n, (readCounts l n ⟨c, some d⟩).2 = ⟨c, some d⟩ := by
        intro n
        induction n with
        | zero => rfl
        | succ n ih => rw [readCounts_step, readNum_stuck]; exact ih
      rw [hs] at h
      cases h
    | none =>
      obtain ⟨⟨h1, _⟩, h2, h3⟩ := (good_num l hl big).sound a x c ha hr
      rcases hq : readCounts l n ⟨c, none⟩ with ⟨y, st⟩
      rw [hq] at h
      simp only at h
      subst h
      obtain ⟨k1, k2, k3, k4⟩ := counts_sound l hl n c b y h3 hq
      refine ⟨by simp [k1], ?_, ?_, k4⟩
      · intro z hz
        rcases List.mem_cons.1 hz with rfl | hz
        · omega
        · exact k2 z hz
      · show l.drop a = (num x ++ countsBytes y) ++ l.drop b
        rw [h2, k3, List.append_assoc]
theorem counts_back (l : List Nat) (hl : ∀ b ∈ l, b < 256) : ∀ (v : List Nat) (a : Nat) (r : List Nat), a ≤ l.length → (∀ z ∈ v, z ≤ big) → l.drop a = countsBytes v ++ r → readCounts l v.length ⟨a, none⟩ = (v, ⟨a + (countsBytes v).length, none⟩)
  | [], a, r, _, _, _ => rfl
  | x :: v, a, r, ha, hz, h => by
    have h' : l.drop a = num x ++ (countsBytes v ++ r) := by rw [h]; show (num x ++ countsBytes v) ++ r = _; rw [List.append_assoc]
    have hx := hz x (List.mem_cons_self ..)
    have h1 := (good_num l hl big).back a x _ ha ⟨by omega, by unfold big at hx; unfold top; omega⟩ h'
    obtain ⟨h2, h3⟩ := drop_more ha h'
    have h4 := counts_back l hl v _ r h3 (fun z h => hz z (List.mem_cons_of_mem _ h)) h2
    rw [List.length_cons, readCounts_step, h1]
    simp only
    rw [h4]
    simp only [Prod.mk.injEq, At.mk.injEq, and_true, true_and]
    show _ = a + (num x ++ countsBytes v).length
    rw [List.length_append, Nat.add_assoc]
theorem trimmed_counts {v : List Nat} (h : trimmed (v.map Int.ofNat) big = true) : v.length ≤ 16 ∧ ∀ z ∈ v, z ≤ big := by
  unfold trimmed at h
  simp only [Bool.and_eq_true, decide_eq_true_eq, List.all_eq_true, List.length_map] at h
  obtain ⟨⟨h1, h2⟩, _⟩ := h
  refine ⟨h1, fun z hz => ?_⟩
  have := (h2 (Int.ofNat z) (List.mem_map_of_mem hz)).2
  exact Int.ofNat_le.1 this
def vecBytesN (v : List Nat) : List Nat := num v.length ++ countsBytes v
theorem good_vec (l : List Nat) (hl : ∀ b ∈ l, b < 256) : Good l (fun st => readVec l st) vecBytesN (fun v => trimmed (v.map Int.ofNat) big = true) := by
  have hn := good_num l hl 16
  refine ⟨?_, ?_, ?_⟩
  · intro a v b ha hv
    unfold readVec at hv
    simp only at hv
    rcases hr : readNum l ⟨a, none⟩ 16 with ⟨x, c, bad⟩
    rw [hr] at hv
    simp only at hv
    rcases hq : readCounts l x ⟨c, bad⟩ with ⟨y, d, bad2⟩
    rw [hq] at hv
    cases bad2 with
    | some z => simp at hv
    | none =>
      simp only at hv
      split at hv
      · rename_i ht
        simp only [Prod.mk.injEq, At.mk.injEq] at hv
        obtain ⟨rfl, rfl, _⟩ := hv
        cases bad with
        | some z =>
          exfalso
          have hs : ∀ n, (readCounts l n ⟨c, some z⟩).2 = ⟨c, some z⟩ := by
            intro n
            induction n with
            | zero => rfl
            | succ n ih => rw [readCounts_step, readNum_stuck]; exact ih
          have := hs x
          rw [hq] at this
          cases this
        | none =>
          obtain ⟨⟨h1, _⟩, h2, h3⟩ := hn.sound a x c ha hr
          obtain ⟨k1, k2, k3, k4⟩ := counts_sound l hl x c d y h3 hq
          refine ⟨ht, ?_, k4⟩
          unfold vecBytesN
          rw [k1, h2, k3, List.append_assoc]
      · simp at hv
  · intro a v r ha hP hv
    obtain ⟨t1, t2⟩ := trimmed_counts hP
    unfold vecBytesN at hv
    rw [List.append_assoc] at hv
    have h1 := hn.back a v.length _ ha ⟨by omega, by unfold top; omega⟩ hv
    obtain ⟨h2, h3⟩ := drop_more ha hv
    have h4 := counts_back l hl v _ r h3 t2 h2
    show readVec l ⟨a, none⟩ = _
    unfold readVec
    simp only [h1]
    rw [h4]
    simp only
    rw [if_pos hP]
    unfold vecBytesN
    rw [List.length_append, Nat.add_assoc]
  · intro a b
    exact ⟨[], a, b, rfl⟩

/-- A reader that reads no more than it may reads as one that reads more. -/
theorem Good.cover {α : Type} {l : List Nat} {p : At → α × At} {e : α → List Nat} {P Q : α → Prop} (h : Good l p e P) (k : ∀ v, Q v → P v) {v : α} (hq : Q v) (hl : l = e v) : p ⟨0, none⟩ = (v, ⟨l.length, none⟩) := by
  have := h.back 0 v [] (Nat.zero_le _) (k v hq) (by rw [List.drop_zero, List.append_nil]; exact hl)
  rw [this, hl, Nat.zero_add]
/-- What is read to its end, if it may be. -/
def whole {α : Type} (l : List Nat) (p : At → α × At) (Q : α → Bool) : Option α :=
  if faultAt l (p ⟨0, none⟩).2 = none ∧ Q (p ⟨0, none⟩).1 = true then some (p ⟨0, none⟩).1 else none
theorem Good.whole {α : Type} {l : List Nat} {p : At → α × At} {e : α → List Nat} {P : α → Prop} {Q : α → Bool} (h : Good l p e P) (k : ∀ v, Q v = true → P v) (v : α) : WireMath.whole l p Q = some v ↔ Q v = true ∧ l = e v := by
  unfold WireMath.whole
  constructor
  · intro hw
    split at hw
    · rename_i hc
      obtain ⟨h1, h2⟩ := hc
      obtain rfl := Option.some.inj hw
      refine ⟨h2, ?_⟩
      rcases hp : p ⟨0, none⟩ with ⟨x, a, bad⟩
      rw [hp] at h1 h2
      unfold faultAt at h1
      cases bad with
      | some b => simp at h1
      | none =>
        simp only at h1
        split at h1
        · cases h1
        · rename_i hlt
          obtain ⟨_, s2, s3⟩ := h.sound 0 x a (Nat.zero_le _) hp
          rw [List.drop_zero, List.drop_of_length_le (by omega), List.append_nil] at s2
          exact s2
    · cases hw
  · rintro ⟨hq, hl⟩
    have hp := h.cover k hq hl
    rw [hp]
    unfold faultAt
    simp only
    rw [if_neg (Nat.lt_irrefl _), if_pos ⟨rfl, hq⟩]
theorem Good.whole_none {α : Type} {l : List Nat} {p : At → α × At} {e : α → List Nat} {P : α → Prop} {Q : α → Bool} (h : Good l p e P) (k : ∀ v, Q v = true → P v) : WireMath.whole l p Q = none ↔ ∀ v, Q v = true → l ≠ e v := by
  constructor
  · intro hn v hq hl
    have := (h.whole k v).2 ⟨hq, hl⟩
    rw [hn] at this
    cases this
  · intro ha
    cases hw : WireMath.whole l p Q with
    | none => rfl
    | some v =>
      have := (h.whole k v).1 hw
      exact absurd this.2 (ha v this.1)
/-- What is written has no beginning that is written, but itself. -/
theorem Good.prefixFree {α : Type} {p : List Nat → At → α × At} {e : α → List Nat} {P : α → Prop} (h : ∀ l, (∀ b ∈ l, b < 256) → Good l (p l) e P) {v w : α} {r : List Nat} (hv : P v) (hw : P w) (hb : ∀ b ∈ e v, b < 256) (hl : e v = e w ++ r) : v = w ∧ r = [] := by
  have g := h (e v) hb
  have h1 := g.back 0 v [] (Nat.zero_le _) hv (by rw [List.drop_zero, List.append_nil])
  have h2 := g.back 0 w r (Nat.zero_le _) hw (by rw [List.drop_zero]; exact hl)
  rw [h1] at h2
  simp only [Prod.mk.injEq, At.mk.injEq, and_true] at h2
  refine ⟨h2.1, ?_⟩
  have := congrArg List.length hl
  rw [List.length_append] at this
  exact List.length_eq_zero_iff.1 (by omega)

/-- A write: region, number, time, what it follows, session, key, gone, value, life. -/
structure WriteF where
  region : Nat
  number : Nat
  time : Nat
  deps : List Nat
  session : List Nat
  key : List Nat
  gone : Bool
  value : List Nat
  life : Nat
deriving DecidableEq
abbrev WriteT := Nat × Nat × Nat × List Nat × List Nat × List Nat × Bool × List Nat × Nat
def writeBytesT (v : WriteT) : List Nat := num v.1 ++ (num v.2.1 ++ (num v.2.2.1 ++ (vecBytesN v.2.2.2.1 ++ (textBytes v.2.2.2.2.1 ++ (textBytes v.2.2.2.2.2.1 ++ (flagBytes v.2.2.2.2.2.2.1 ++ (textBytes v.2.2.2.2.2.2.2.1 ++ num v.2.2.2.2.2.2.2.2)))))))
/-- Its reader, with the most that each may be. -/
def readWriteT (l : List Nat) (m1 m2 m3 m5 m6 m8 m9 : Int) : At → WriteT × At :=
  seq (fun st => readNum l st m1) (seq (fun st => readNum l st m2) (seq (fun st => readNum l st m3) (seq (fun st => readVec l st) (seq (fun st => readText l st m5) (seq (fun st => readText l st m6) (seq (fun st => readFlag l st) (seq (fun st => readText l st m8) (fun st => readNum l st m9))))))))
def rightWriteT (v : WriteT) : Bool :=
  decide (1 ≤ v.1) && decide (v.1 ≤ 16) && decide (1 ≤ v.2.1) && decide (v.2.1 ≤ big) && decide (1 ≤ v.2.2.1) && decide (v.2.2.1 ≤ big) && trimmed (v.2.2.2.1.map Int.ofNat) big && decide (1 ≤ v.2.2.2.2.1.length) && decide (v.2.2.2.2.1.length ≤ 64) && decide (v.2.2.2.2.2.1.length ≤ 32) && decide (v.2.2.2.2.2.2.2.1.length ≤ 128) && (decide (v.2.2.2.2.2.2.2.1.length = 0) || !v.2.2.2.2.2.2.1) && decide (v.2.2.2.2.2.2.2.2 ≤ big)
def mayWrite (m1 m2 m3 m5 m6 m8 m9 : Int) (v : WriteT) : Prop := ((v.1 : Int) ≤ m1 ∧ v.1 ≤ top) ∧ ((v.2.1 : Int) ≤ m2 ∧ v.2.1 ≤ top) ∧ ((v.2.2.1 : Int) ≤ m3 ∧ v.2.2.1 ≤ top) ∧ trimmed (v.2.2.2.1.map Int.ofNat) big = true ∧ ((v.2.2.2.2.1.length : Int) ≤ m5 ∧ v.2.2.2.2.1.length ≤ top) ∧ ((v.2.2.2.2.2.1.length : Int) ≤ m6 ∧ v.2.2.2.2.2.1.length ≤ top) ∧ True ∧ ((v.2.2.2.2.2.2.2.1.length : Int) ≤ m8 ∧ v.2.2.2.2.2.2.2.1.length ≤ top) ∧ ((v.2.2.2.2.2.2.2.2 : Int) ≤ m9 ∧ v.2.2.2.2.2.2.2.2 ≤ top)
theorem good_write (l : List Nat) (hl : ∀ b ∈ l, b < 256) (m1 m2 m3 m5 m6 m8 m9 : Int) : Good l (readWriteT l m1 m2 m3 m5 m6 m8 m9) writeBytesT (mayWrite m1 m2 m3 m5 m6 m8 m9) :=
  (good_num l hl m1).seq ((good_num l hl m2).seq ((good_num l hl m3).seq ((good_vec l hl).seq ((good_text l hl m5).seq ((good_text l hl m6).seq ((good_flag l hl).seq ((good_text l hl m8).seq (good_num l hl m9))))))))
def wideW (m1 m2 m3 m5 m6 m8 m9 : Int) : Prop := 16 ≤ m1 ∧ (big : Int) ≤ m2 ∧ (big : Int) ≤ m3 ∧ 64 ≤ m5 ∧ 32 ≤ m6 ∧ 128 ≤ m8 ∧ (big : Int) ≤ m9
theorem write_whole (l : List Nat) (hl : ∀ b ∈ l, b < 256) {m1 m2 m3 m5 m6 m8 m9 : Int} (hm : wideW m1 m2 m3 m5 m6 m8 m9) (v : WriteT) : whole l (readWriteT l m1 m2 m3 m5 m6 m8 m9) rightWriteT = some v ↔ rightWriteT v = true ∧ l = writeBytesT v := by
  refine (good_write l hl m1 m2 m3 m5 m6 m8 m9).whole ?_ v
  intro v hv
  obtain ⟨h1, h2, h3, h5, h6, h8, h9⟩ := hm
  unfold rightWriteT at hv
  simp only [Bool.and_eq_true, decide_eq_true_eq] at hv
  unfold mayWrite
  unfold big at *
  unfold top
  refine ⟨⟨?_, ?_⟩, ⟨?_, ?_⟩, ⟨?_, ?_⟩, hv.1.1.1.1.1.1.2, ⟨?_, ?_⟩, ⟨?_, ?_⟩, trivial, ⟨?_, ?_⟩, ?_, ?_⟩ <;> omega

/-- Claims: session, user, epoch, issue, key, context. -/
abbrev ClaimsT := List Nat × List Nat × Nat × Nat × Nat × List Nat
def claimsBytesT (v : ClaimsT) : List Nat := textBytes v.1 ++ (textBytes v.2.1 ++ (num v.2.2.1 ++ (num v.2.2.2.1 ++ (num v.2.2.2.2.1 ++ vecBytesN v.2.2.2.2.2))))
def readClaimsT (l : List Nat) (m1 m2 m3 m4 m5 : Int) : At → ClaimsT × At :=
  seq (fun st => readText l st m1) (seq (fun st => readText l st m2) (seq (fun st => readNum l st m3) (seq (fun st => readNum l st m4) (seq (fun st => readNum l st m5) (fun st => readVec l st)))))
def rightClaimsT (v : ClaimsT) : Bool :=
  decide (1 ≤ v.1.length) && decide (v.1.length ≤ 64) && decide (1 ≤ v.2.1.length) && decide (v.2.1.length ≤ 32) && decide (v.2.2.1 ≤ big) && decide (v.2.2.2.1 ≤ big) && decide (v.2.2.2.2.1 ≤ big) && trimmed (v.2.2.2.2.2.map Int.ofNat) big
def mayClaims (m1 m2 m3 m4 m5 : Int) (v : ClaimsT) : Prop := ((v.1.length : Int) ≤ m1 ∧ v.1.length ≤ top) ∧ ((v.2.1.length : Int) ≤ m2 ∧ v.2.1.length ≤ top) ∧ ((v.2.2.1 : Int) ≤ m3 ∧ v.2.2.1 ≤ top) ∧ ((v.2.2.2.1 : Int) ≤ m4 ∧ v.2.2.2.1 ≤ top) ∧ ((v.2.2.2.2.1 : Int) ≤ m5 ∧ v.2.2.2.2.1 ≤ top) ∧ trimmed (v.2.2.2.2.2.map Int.ofNat) big = true
theorem good_claims (l : List Nat) (hl : ∀ b ∈ l, b < 256) (m1 m2 m3 m4 m5 : Int) : Good l (readClaimsT l m1 m2 m3 m4 m5) claimsBytesT (mayClaims m1 m2 m3 m4 m5) :=
  (good_text l hl m1).seq ((good_text l hl m2).seq ((good_num l hl m3).seq ((good_num l hl m4).seq ((good_num l hl m5).seq (good_vec l hl)))))
def wideC (m1 m2 m3 m4 m5 : Int) : Prop := 64 ≤ m1 ∧ 32 ≤ m2 ∧ (big : Int) ≤ m3 ∧ (big : Int) ≤ m4 ∧ (big : Int) ≤ m5
theorem claims_may {m1 m2 m3 m4 m5 : Int} (hm : wideC m1 m2 m3 m4 m5) (v : ClaimsT) (hv : rightClaimsT v = true) : mayClaims m1 m2 m3 m4 m5 v := by
  obtain ⟨h1, h2, h3, h4, h5⟩ := hm
  unfold rightClaimsT at hv
  simp only [Bool.and_eq_true, decide_eq_true_eq] at hv
  unfold mayClaims
  unfold big at *
  unfold top
  refine ⟨⟨?_, ?_⟩, ⟨?_, ?_⟩, ⟨?_, ?_⟩, ⟨?_, ?_⟩, ⟨?_, ?_⟩, hv.2⟩ <;> omega
theorem claims_whole (l : List Nat) (hl : ∀ b ∈ l, b < 256) {m1 m2 m3 m4 m5 : Int} (hm : wideC m1 m2 m3 m4 m5) (v : ClaimsT) : whole l (readClaimsT l m1 m2 m3 m4 m5) rightClaimsT = some v ↔ rightClaimsT v = true ∧ l = claimsBytesT v :=
  (good_claims l hl m1 m2 m3 m4 m5).whole (fun v hv => claims_may hm v hv) v
theorem claims_free {v w : ClaimsT} {r : List Nat} (hv : rightClaimsT v = true) (hw : rightClaimsT w = true) (hb : ∀ b ∈ claimsBytesT v, b < 256) (hl : claimsBytesT v = claimsBytesT w ++ r) : v = w ∧ r = [] :=
  Good.prefixFree (p := fun l => readClaimsT l 64 32 big big big) (e := claimsBytesT) (P := mayClaims 64 32 big big big) (fun l h => good_claims l h 64 32 big big big) (claims_may ⟨by decide, by decide, by decide, by decide, by decide⟩ v hv) (claims_may ⟨by decide, by decide, by decide, by decide, by decide⟩ w hw) hb hl
end WireMath
namespace JournalMath
open TextNat BlockMath FrameMath WireMath

abbrev PartT := Nat × Nat × Nat × List Nat
def PartT.part (v : PartT) : Part := ⟨v.1, v.2.1, v.2.2.1, v.2.2.2⟩
def partBytesT (v : PartT) : List Nat := num v.1 ++ (num v.2.1 ++ (num v.2.2.1 ++ textBytes v.2.2.2))
theorem partBytes_payload (v : PartT) : partBytesT v = payload v.part := rfl
def readPartT (l : List Nat) (m1 m2 m3 m4 : Int) : At → PartT × At :=
  seq (fun st => readNum l st m1) (seq (fun st => readNum l st m2) (seq (fun st => readNum l st m3) (fun st => readText l st m4)))
def mayPart (m1 m2 m3 m4 : Int) (v : PartT) : Prop := ((v.1 : Int) ≤ m1 ∧ v.1 ≤ top) ∧ ((v.2.1 : Int) ≤ m2 ∧ v.2.1 ≤ top) ∧ ((v.2.2.1 : Int) ≤ m3 ∧ v.2.2.1 ≤ top) ∧ ((v.2.2.2.length : Int) ≤ m4 ∧ v.2.2.2.length ≤ top)
theorem good_part (l : List Nat) (hl : ∀ b ∈ l, b < 256) (m1 m2 m3 m4 : Int) : Good l (readPartT l m1 m2 m3 m4) partBytesT (mayPart m1 m2 m3 m4) :=
  (good_num l hl m1).seq ((good_num l hl m2).seq ((good_num l hl m3).seq (good_text l hl m4)))
def rightPart (v : PartT) : Bool :=
  decide (1 ≤ v.1) && decide (v.1 ≤ 4) && decide (1 ≤ v.2.1) && decide (v.2.1 ≤ JournalMath.big) && decide (v.2.2.1 ≤ JournalMath.big) && decide (v.2.2.2.length ≤ 4096) && (decide (v.1 = 2) || decide (v.2.2.2 = []))
def wideP (m1 m2 m3 m4 : Int) : Prop := 4 ≤ m1 ∧ (JournalMath.big : Int) ≤ m2 ∧ (JournalMath.big : Int) ≤ m3 ∧ 4096 ≤ m4
theorem part_whole (l : List Nat) (hl : ∀ b ∈ l, b < 256) {m1 m2 m3 m4 : Int} (hm : wideP m1 m2 m3 m4) (v : PartT) : WireMath.whole l (readPartT l m1 m2 m3 m4) rightPart = some v ↔ rightPart v = true ∧ l = partBytesT v := by
  refine (good_part l hl m1 m2 m3 m4).whole ?_ v
  intro v hv
  obtain ⟨h1, h2, h3, h4⟩ := hm
  unfold rightPart at hv
  simp only [Bool.and_eq_true, decide_eq_true_eq] at hv
  unfold mayPart
  unfold JournalMath.big at *
  unfold top
  refine ⟨⟨?_, ?_⟩, ⟨?_, ?_⟩, ⟨?_, ?_⟩, ?_, ?_⟩ <;> omega
theorem part_none (l : List Nat) (hl : ∀ b ∈ l, b < 256) {m1 m2 m3 m4 : Int} (hm : wideP m1 m2 m3 m4) : WireMath.whole l (readPartT l m1 m2 m3 m4) rightPart = none ↔ ∀ v, rightPart v = true → l ≠ partBytesT v := by
  constructor
  · intro h v hv he
    rw [(part_whole l hl hm v).2 ⟨hv, he⟩] at h
    cases h
  · intro h
    cases hw : WireMath.whole l (readPartT l m1 m2 m3 m4) rightPart with
    | none => rfl
    | some v =>
      obtain ⟨h1, h2⟩ := (part_whole l hl hm v).1 hw
      exact absurd h2 (h v h1)
/-- The part that a payload is, whatever more its readers may read. -/
theorem readP_whole (l : List Nat) (hl : ∀ b ∈ l, b < 256) {m1 m2 m3 m4 : Int} (hm : wideP m1 m2 m3 m4) : readP l = (WireMath.whole l (readPartT l m1 m2 m3 m4) rightPart).map PartT.part := by
  have hb : wideP JournalMath.big JournalMath.big JournalMath.big 4096 := by unfold wideP JournalMath.big; omega
  have h1 : WireMath.whole l (readPartT l m1 m2 m3 m4) rightPart = WireMath.whole l (readPartT l JournalMath.big JournalMath.big JournalMath.big 4096) rightPart := by
    cases hw : WireMath.whole l (readPartT l JournalMath.big JournalMath.big JournalMath.big 4096) rightPart with
    | none => rw [part_none l hl hm]; exact (part_none l hl hb).1 hw
    | some v => rw [part_whole l hl hm]; exact (part_whole l hl hb v).1 hw
  rw [h1]
  have hg := good_part l hl JournalMath.big JournalMath.big JournalMath.big 4096
  unfold WireMath.whole
  rcases hp : readPartT l JournalMath.big JournalMath.big JournalMath.big 4096 ⟨0, none⟩ with ⟨v, a, bad⟩
  have hr : readP l = if (faultAt l ⟨a, bad⟩).isSome ∨ v.1 < 1 ∨ 4 < v.1 ∨ v.2.1 < 1 ∨ (v.1 ≠ 2 ∧ v.2.2.2 ≠ []) then none else some v.part := by
    have e : readP l = if (faultAt l (readPartT l JournalMath.big JournalMath.big JournalMath.big 4096 ⟨0, none⟩).2).isSome ∨ (readPartT l JournalMath.big JournalMath.big JournalMath.big 4096 ⟨0, none⟩).1.1 < 1 ∨ 4 < (readPartT l JournalMath.big JournalMath.big JournalMath.big 4096 ⟨0, none⟩).1.1 ∨ (readPartT l JournalMath.big JournalMath.big JournalMath.big 4096 ⟨0, none⟩).1.2.1 < 1 ∨ ((readPartT l JournalMath.big JournalMath.big JournalMath.big 4096 ⟨0, none⟩).1.1 ≠ 2 ∧ (readPartT l JournalMath.big JournalMath.big JournalMath.big 4096 ⟨0, none⟩).1.2.2.2 ≠ []) then none else some (readPartT l JournalMath.big JournalMath.big JournalMath.big 4096 ⟨0, none⟩).1.part := rfl
    rw [e, hp]
  rw [hr]
  by_cases hf : faultAt l ⟨a, bad⟩ = none
  · have hb : bad = none := by
      cases bad with
      | none => rfl
      | some b => cases hf
    subst hb
    obtain ⟨⟨⟨q1, _⟩, ⟨q2, _⟩, ⟨q3, _⟩, q4, _⟩, _, _⟩ := hg.sound 0 v a (Nat.zero_le _) hp
    simp only [hf, Option.isSome_none, Bool.false_eq_true, false_or, true_and]
    by_cases hc : v.1 < 1 ∨ 4 < v.1 ∨ v.2.1 < 1 ∨ (v.1 ≠ 2 ∧ v.2.2.2 ≠ [])
    · rw [if_pos hc, if_neg]
      · rfl
      · intro h
        unfold rightPart at h
        simp only [Bool.and_eq_true, decide_eq_true_eq, Bool.or_eq_true] at h
        obtain ⟨⟨⟨⟨⟨⟨h1, h2⟩, h3⟩, h4⟩, h5⟩, h6⟩, h7⟩ := h
        rcases hc with hc | hc | hc | ⟨hc, hd⟩
        · omega
        · omega
        · omega
        · rcases h7 with h7 | h7
          · exact hc h7
          · exact hd h7
    · rw [if_neg hc, if_pos]
      · rfl
      · unfold rightPart
        simp only [Bool.and_eq_true, decide_eq_true_eq, Bool.or_eq_true]
        simp only [not_or, not_and, Classical.not_not, ne_eq] at hc
        obtain ⟨h1, h2, h3, h4⟩ := hc
        refine ⟨⟨⟨⟨⟨⟨by omega, by omega⟩, by omega⟩, by omega⟩, by omega⟩, by omega⟩, ?_⟩
        by_cases h5 : v.1 = 2
        · exact .inl h5
        · exact .inr (h4 h5)
  · have hs : (faultAt l ⟨a, bad⟩).isSome = true := by
      cases hx : faultAt l ⟨a, bad⟩ with
      | none => exact absurd hx hf
      | some _ => rfl
    rw [if_pos (.inl hs), if_neg (fun h => hf h.1)]
    rfl
theorem read_is {t : List Nat} (ht : ∀ b ∈ t, b < 256) {m1 m2 m3 m4 : Int} (hm : wideP m1 m2 m3 m4) {v : PartT} {st : At} (h : readPartT t m1 m2 m3 m4 ⟨0, none⟩ = (v, st)) :
    readP t = (if faultAt t st = none ∧ rightPart v = true then some v.part else none) ∧ (faultAt t st = none → mayPart m1 m2 m3 m4 v) := by
  refine ⟨?_, fun hf => ?_⟩
  · rw [readP_whole t ht hm]
    unfold WireMath.whole
    rw [h]
    split
    · rfl
    · rfl
  · obtain ⟨a, bad⟩ := st
    cases bad with
    | some b => cases hf
    | none => exact ((good_part t ht m1 m2 m3 m4).sound 0 v a (Nat.zero_le _) h).1
/-- What is read as a part is what is written of it. -/
theorem readP_is {t : List Nat} {p : Part} (ht : Oct t) (h : readP t = some p) : t = payload p ∧ Valid p := by
  have hb : wideP JournalMath.big JournalMath.big JournalMath.big 4096 := by unfold wideP JournalMath.big; omega
  rw [readP_whole t ht hb, Option.map_eq_some_iff] at h
  obtain ⟨v, hv, rfl⟩ := h
  obtain ⟨h1, h2⟩ := (part_whole t ht hb v).1 hv
  refine ⟨h2, ?_⟩
  unfold rightPart at h1
  simp only [Bool.and_eq_true, decide_eq_true_eq, Bool.or_eq_true] at h1
  obtain ⟨⟨⟨⟨⟨⟨a1, a2⟩, a3⟩, a4⟩, a5⟩, a6⟩, a7⟩ := h1
  exact ⟨a1, a2, a3, a4, a5, a6, fun b hb2 => ht b (by rw [h2]; unfold partBytesT textBytes; simp only [List.mem_append]; exact .inr (.inr (.inr (.inr hb2)))), fun hk => a7.resolve_left hk⟩
theorem atP_is {l : List Nat} {i n : Nat} {p : Part} (hl : Oct l) (h : atP l i = some (p, n)) : Valid p ∧ n = i + (sealP p).length ∧ l[i]? = some 1 ∧ n ≤ l.length ∧ ∃ r, l.drop i = sealP p ++ r := by
  unfold atP at h
  split at h
  · cases h
  · rename_i t ht
    rw [Option.map_eq_some_iff] at h
    obtain ⟨q, hq, he⟩ := h
    simp only [Prod.mk.injEq] at he
    obtain ⟨rfl, rfl⟩ := he
    obtain ⟨r, hr, h8⟩ := stands_is ht
    have hto := stands_bytes ht (fun b hb => hl b (List.mem_of_mem_drop hb))
    obtain ⟨h1, h2⟩ := readP_is hto hq
    have hs : framed t = sealP q := by unfold sealP; rw [← h1]
    rw [hs] at hr
    have hlen := congrArg List.length hr
    rw [List.length_drop, List.length_append] at hlen
    have hsl := seal_len q
    refine ⟨h2, by rw [hs], ?_, by rw [hs]; omega, r, hr⟩
    have h0 : (l.drop i)[0]? = some 1 := by rw [hr]; rfl
    rw [List.getElem?_drop, Nat.add_zero] at h0
    exact h0
/-- Parts that were read one by one, up to a place. -/
structure Reading (l : List Nat) (i : Nat) (D : List Part) : Prop where
  rest : ∃ f, run l (l.length + 1) 0 = (D ++ (run l f i).1, (run l f i).2) ∧ f + D.length = l.length + 1
  at_ : i = (enc D).length
  le : i ≤ l.length
  valid : ∀ p ∈ D, Valid p
theorem Reading.start (l : List Nat) : Reading l 0 [] := ⟨⟨l.length + 1, rfl, rfl⟩, rfl, Nat.zero_le _, fun p hp => by cases hp⟩
theorem Reading.few {l : List Nat} {i : Nat} {D : List Part} (h : Reading l i D) : 21 * D.length ≤ l.length := by
  have h1 := enc_len D
  have h2 := h.at_
  have h3 := h.le
  omega
theorem Reading.next {l : List Nat} {i n : Nat} {D : List Part} {p : Part} (hl : Oct l) (h : Reading l i D) (hp : atP l i = some (p, n)) : Reading l n (D ++ [p]) := by
  obtain ⟨f, h1, h2⟩ := h.rest
  have hf := h.few
  obtain ⟨g, rfl⟩ : ∃ g, f = g + 1 := ⟨f - 1, by omega⟩
  obtain ⟨q1, q2, q3, q4, _⟩ := atP_is hl hp
  refine ⟨⟨g, ?_, by rw [List.length_append]; simp; omega⟩, ?_, q4, fun q hq => ?_⟩
  · rw [h1]
    show (D ++ (match atP l i with | none => ([], i) | some (p, n) => (p :: (run l g n).1, (run l g n).2)).1, _) = _
    simp only [run, hp]
    rw [List.append_assoc]
    rfl
  · rw [q2, h.at_, enc_append]
    simp [enc]
  · rcases List.mem_append.1 hq with hq | hq
    · exact h.valid q hq
    · simp at hq
      rw [hq]
      exact q1
theorem Reading.stop {l : List Nat} {i : Nat} {D : List Part} (h : Reading l i D) (hp : atP l i = none) : partsOf l = D ∧ endOf l = i := by
  obtain ⟨f, h1, h2⟩ := h.rest
  have hf := h.few
  obtain ⟨g, rfl⟩ : ∃ g, f = g + 1 := ⟨f - 1, by omega⟩
  unfold partsOf endOf
  rw [h1]
  simp only [run, hp, List.append_nil]
  exact ⟨trivial, trivial⟩
/-- No part ahead of a place says that more was safe. -/
def NoMore (l : List Nat) (e j : Nat) : Prop := ∀ i p n, e < i → i < j → atP l i = some (p, n) → p.place ≤ e
theorem NoMore.start (l : List Nat) (e : Nat) : NoMore l e (e + 1) := fun i p n h1 h2 _ => by omega
theorem NoMore.over {l : List Nat} {e i j : Nat} (hl : Oct l) (h : NoMore l e i) (hno : ∀ k, i ≤ k → k < j → l[k]? ≠ some 1) : NoMore l e j := fun k p n h1 h2 h3 => by
  by_cases hk : k < i
  · exact h k p n h1 hk h3
  · exact absurd (atP_is hl h3).2.2.1 (hno k (by omega) h2)
theorem NoMore.step {l : List Nat} {e i : Nat} (h : NoMore l e i) (hi : ∀ p n, atP l i = some (p, n) → p.place ≤ e) : NoMore l e (i + 1) := fun k p n h1 h2 h3 => by
  by_cases hk : k < i
  · exact h k p n h1 hk h3
  · obtain rfl : k = i := by omega
    exact hi p n h3
theorem NoMore.end {l : List Nat} (hl : Oct l) {j : Nat} (h : NoMore l (endOf l) j) (hno : ∀ k, j ≤ k → l[k]? ≠ some 1) : corrupt l = false := by
  refine corrupt_no fun i p n h1 h2 => ?_
  by_cases hi : i < j
  · exact h i p n h1 hi h2
  · exact absurd (atP_is hl h2).2.2.1 (hno i (by omega))
theorem corrupt_at {l : List Nat} (hl : Oct l) {i n : Nat} {p : Part} (h1 : endOf l < i) (h2 : atP l i = some (p, n)) (h3 : endOf l < p.place) : corrupt l = true := by
  obtain ⟨_, _, q3, q4, _⟩ := atP_is hl h2
  exact corrupt_yes h1 (List.getElem?_eq_some_iff.1 q3).1 h2 h3
/-- Whether parts are whole, asked one by one. -/
theorem whole_start (l : List Part) : whole l = wholeF ((l.head?.map Part.gen).getD 0) (decide (0 = 0)) 0 (l.drop 0) := rfl
theorem whole_step {l : List Part} {i ends g : Nat} {p : Part} (hp : l[i]? = some p) :
    wholeF g (decide (i = 0)) ends (l.drop i) = if p.gen = g ∧ (p.kind = 1 ↔ i = 0) ∧ ¬ (p.kind = 4 ∧ ends = 0) then wholeF g (decide (i + 1 = 0)) (ends + if p.kind = 3 then 1 else 0) (l.drop (i + 1)) else false := by
  have hi := (List.getElem?_eq_some_iff.1 hp).1
  rw [List.drop_eq_getElem_cons hi, (List.getElem?_eq_some_iff.1 hp).2]
  show (if p.gen = g ∧ (p.kind = 1 ↔ decide (i = 0) = true) ∧ ¬ (p.kind = 4 ∧ ends = 0) then wholeF g false (ends + if p.kind = 3 then 1 else 0) (l.drop (i + 1)) else false) = _
  simp only [decide_eq_true_eq, show decide (i + 1 = 0) = false from decide_eq_false (by omega)]
theorem whole_end {l : List Part} {i ends g : Nat} (hi : l.length ≤ i) : wholeF g (decide (i = 0)) ends (l.drop i) = (ends == 1) := by
  rw [List.drop_of_length_le hi]
  rfl
/-- Two Ends are no whole generation. -/
theorem wholeF_many (g : Nat) : ∀ (l : List Part) (first : Bool) (ends : Nat), 2 ≤ ends → wholeF g first ends l = false
  | [], _, ends, h => by
    show (ends == 1) = false
    rw [beq_eq_false_iff_ne]
    omega
  | p :: r, _, ends, h => by
    unfold wholeF
    split
    · exact wholeF_many g r false _ (by omega)
    · rfl
theorem recs_snoc {l : List Part} {i : Nat} {p : Part} (h : l[i]? = some p) : recs (l.take (i + 1)) = recs (l.take i) ++ if p.kind = 2 then [p.text] else [] := by
  rw [List.take_add_one, h]
  unfold recs
  rw [List.filterMap_append]
  by_cases hk : p.kind = 2
  · simp [hk]
  · simp [hk]
theorem enc_snoc {l : List Part} {i : Nat} {p : Part} (h : l[i]? = some p) : enc (l.take (i + 1)) = enc (l.take i) ++ sealP p := by
  rw [List.take_add_one, h, enc_append]
  simp [enc]
theorem place_at {l : List Part} {i : Nat} {p : Part} (h : l[i]? = some p) : placeOf l (i + 1) = placeOf l i + (sealP p).length := by
  unfold placeOf
  rw [enc_snoc h, List.length_append]
/-- The last Mark, asked from the end on. -/
theorem sealed_at {l : List Part} {i : Nat} {p : Part} (h : l[i]? = some p) (hk : p.kind = 4) (hno : ∀ j q, i < j → l[j]? = some q → q.kind ≠ 4) : sealedN l = i + 1 := by
  have hi := (List.getElem?_eq_some_iff.1 h).1
  have hs : l = l.take (i + 1) ++ l.drop (i + 1) := (List.take_append_drop _ _).symm
  rw [hs, sealedN_append (fun q hq => by
    obtain ⟨j, hj⟩ := List.getElem?_of_mem hq
    rw [List.getElem?_drop] at hj
    exact hno (i + 1 + j) q (by omega) hj)]
  rw [sealedN_last (by
    rw [List.getLast?_eq_getElem?, List.length_take, Nat.min_eq_left (by omega), List.getElem?_take, if_pos (by omega), Nat.add_sub_cancel, h]
    simp [hk]), List.length_take]
  omega
end JournalMath
namespace Go.Proofs.YtajkldmpllphjaaDoor
open Go.RowKit FrameMath TextNat

abbrev fname : ByteArray := ⟨#[102, 114, 97, 109, 101]⟩
def SealOk : Prop := ∀ (s : ByteArray) (w : World), Tables w → s.size ≤ 9223372036854775807 → Calls Tryd.prog 54 #[.string s] w fun e w' =>
  (if s.size ≤ 8192 then e = .returned (.tuple #[.string (txt (framed (nats s))), .nilIface]) else ∃ x, e = .returned (.tuple #[.string ⟨#[]⟩, x]) ∧ ErrAt w' fname (s.size : Int) 3 x) ∧ Below w.heap.size w w'
/-- What stands at a place of a text. -/
def openF (l : List Nat) (k : Int) : Option (List Nat) := if 0 ≤ k ∧ k < (l.length : Int) then stands (l.drop k.toNat) else none
def OpenIs (w' : World) (s : ByteArray) (k : Int) (e : Ending) : Prop :=
  match openF (nats s) k with
  | some p => e = .returned (.tuple #[.string (txt p), .int .i64 (k + ((framed p).length : Int)), .nilIface])
  | none => ∃ x, e = .returned (.tuple #[.string ⟨#[]⟩, .int .i64 k, x]) ∧ ErrAt w' fname k (if k = (s.size : Int) then 7 else 2) x
def OpenOk : Prop := ∀ (s : ByteArray) (k : Int) (w : World), Tables w → s.size ≤ 100000 → I64 k → Calls Tryd.prog 57 #[.string s, .int .i64 k] w fun e w' => OpenIs w' s k e ∧ Below w.heap.size w w'
/-- The first beginning from a place on. -/
def findF (l : List Nat) (k : Int) : Int := match (List.range l.length).find? (fun j : Nat => decide (k ≤ (j : Int)) && l[j]? == some 1) with
  | some j => (j : Int)
  | none => -1
theorem find_at {l : List Nat} {k : Int} {i : Nat} (hk : k ≤ (i : Int)) (hi : l[i]? = some 1) (hno : ∀ j : Nat, j < i → k ≤ (j : Int) → l[j]? ≠ some 1) : findF l k = (i : Int) := by
  have hil : i < l.length := (List.getElem?_eq_some_iff.1 hi).1
  unfold findF
  have : (List.range l.length).find? (fun j : Nat => decide (k ≤ (j : Int)) && l[j]? == some 1) = some i := by
    rw [List.find?_range_eq_some]
    refine ⟨by rw [decide_eq_true hk, hi]; rfl, List.mem_range.2 hil, fun j hj => ?_⟩
    by_cases h : k ≤ (j : Int)
    · have := hno j hj h
      rw [decide_eq_true h, Bool.true_and]
      simpa using this
    · rw [decide_eq_false h]
      rfl
  rw [this]
theorem find_none {l : List Nat} {k : Int} (hno : ∀ j : Nat, k ≤ (j : Int) → l[j]? ≠ some 1) : findF l k = -1 := by
  unfold findF
  have : (List.range l.length).find? (fun j : Nat => decide (k ≤ (j : Int)) && l[j]? == some 1) = none := by
    rw [List.find?_eq_none]
    intro j _
    by_cases h : k ≤ (j : Int)
    · have := hno j h
      simpa [h] using this
    · simp [h]
  rw [this]
theorem find_first (p : List Nat) : findF (framed p) 0 = 0 := find_at (i := 0) (Int.le_refl _) rfl fun j hj => by omega
theorem find_behind {p : List Nat} (hp : p.length ≤ 8192) (bp : Oct p) : findF (framed p) 1 = -1 := find_none fun j hj h => by
  obtain ⟨m, rfl⟩ : ∃ m, j = m + 1 := ⟨j - 1, by omega⟩
  have : (nibs (rawF p))[m]? = some 1 := h
  have := nibs_mem (rawF_bytes (by omega) bp) 1 (List.mem_of_getElem? this)
  omega
def FindOk : Prop := ∀ (s : ByteArray) (k : Int) (w : World), s.size ≤ 100000 → I64 k → Calls Tryd.prog 62 #[.string s, .int .i64 k] w fun e w' => e = .returned (.int .i64 (findF (nats s) k)) ∧ Below w.heap.size w w'
theorem OpenIs.some {w' : World} {s : ByteArray} {k : Int} {e : Ending} {p : List Nat} (h : OpenIs w' s k e) (hp : openF (nats s) k = Option.some p) : e = .returned (.tuple #[.string (txt p), .int .i64 (k + ((framed p).length : Int)), .nilIface]) := by
  unfold OpenIs at h
  rwa [hp] at h
theorem OpenIs.none {w' : World} {s : ByteArray} {k : Int} {e : Ending} (h : OpenIs w' s k e) (hp : openF (nats s) k = Option.none) : ∃ x, e = .returned (.tuple #[.string ⟨#[]⟩, .int .i64 k, x]) ∧ ErrAt w' fname k (if k = (s.size : Int) then 7 else 2) x := by
  unfold OpenIs at h
  rwa [hp] at h
theorem framed_bytes {p : List Nat} (h : p.length ≤ 8192) (hp : Oct p) : ∀ b ∈ framed p, b < 256 := by
  intro b hb
  rcases framed_mem (by omega) hp b hb with h | h <;> omega
theorem nats_framed {p : List Nat} (h : p.length ≤ 8192) (hp : Oct p) : nats (txt (framed p)) = framed p := nats_txt _ (framed_bytes h hp)
theorem nats_ok (s : ByteArray) : Oct (nats s) := nats_lt s
theorem txt_framed_size (p : List Nat) : (txt (framed p)).size = 21 + 2 * p.length := by rw [txt_len, framed_len]
end Go.Proofs.YtajkldmpllphjaaDoor
namespace WireMath

def mayNum (z : Int) : Bool := decide (0 ≤ z) && decide (z ≤ top)
def numsBytes (zs : List Int) : List Nat := zs.flatMap fun z => num z.toNat
theorem numsBytes_snoc (zs : List Int) (z : Int) : numsBytes (zs ++ [z]) = numsBytes zs ++ num z.toNat := by
  unfold numsBytes
  rw [List.flatMap_append, List.flatMap_cons, List.flatMap_nil, List.append_nil]
theorem numsBytes_len : ∀ zs : List Int, (numsBytes zs).length ≤ 9 * zs.length
  | [] => Nat.le_refl _
  | z :: r => by
    have h1 := num_len z.toNat
    have h2 := numsBytes_len r
    show (num z.toNat ++ numsBytes r).length ≤ _
    rw [List.length_append, List.length_cons]
    omega
theorem numsBytes_lt : ∀ zs : List Int, zs.all mayNum = true → ∀ b ∈ numsBytes zs, b < 256
  | [], _, b, hb => by cases hb
  | z :: r, h, b, hb => by
    simp only [List.all_cons, Bool.and_eq_true] at h
    have hb' : b ∈ num z.toNat ++ numsBytes r := hb
    rcases List.mem_append.1 hb' with hb | hb
    · have h1 := h.1
      unfold mayNum top at h1
      simp only [Bool.and_eq_true, decide_eq_true_eq] at h1
      exact num_lt _ (by omega) b hb
    · exact numsBytes_lt r h.2 b hb
/-- Numbers, and bytes behind them: all of it, or a fault. -/
def putN (p : Put) (zs : List Int) (s : List Nat) : Put :=
  match p.bad with
  | some _ => p
  | none => if zs.all mayNum then if 65536 < p.out.length + (numsBytes zs ++ s).length then ⟨p.out, some (3, p.out.length)⟩ else ⟨p.out ++ (numsBytes zs ++ s), none⟩
    else ⟨p.out, some (1, p.out.length)⟩
theorem putN_bad {p : Put} {q : Nat × Nat} (h : p.bad = some q) (zs : List Int) (s : List Nat) : putN p zs s = p := by unfold putN; rw [h]
theorem putN_arg {p : Put} (h : p.bad = none) {zs : List Int} {i : Nat} {z : Int} (hz : zs[i]? = some z) (hm : mayNum z = false) (s : List Nat) : putN p zs s = ⟨p.out, some (1, p.out.length)⟩ := by
  unfold putN
  rw [h]
  have : zs.all mayNum = false := by
    rw [Bool.eq_false_iff]
    intro ha
    rw [List.all_eq_true] at ha
    rw [ha z (List.mem_of_getElem? hz)] at hm
    cases hm
  simp only
  rw [this, if_neg (by decide)]
theorem putN_long {p : Put} (h : p.bad = none) {zs : List Int} {s : List Nat} (ha : zs.all mayNum = true) (hl : 65536 < p.out.length + (numsBytes zs ++ s).length) : putN p zs s = ⟨p.out, some (3, p.out.length)⟩ := by
  unfold putN
  rw [h]
  simp only
  rw [if_pos ha, if_pos hl]
theorem putN_ok {p : Put} (h : p.bad = none) {zs : List Int} {s : List Nat} (ha : zs.all mayNum = true) (hl : ¬ 65536 < p.out.length + (numsBytes zs ++ s).length) : putN p zs s = ⟨p.out ++ (numsBytes zs ++ s), none⟩ := by
  unfold putN
  rw [h]
  simp only
  rw [if_pos ha, if_neg hl]
end WireMath
namespace WireMath

theorem putN_num {p : Put} {z : Int} (h : p.bad = none) (h0 : 0 ≤ z) (h1 : z ≤ top) (hl : p.out.length + (num z.toNat).length ≤ 65536) : putN p [z] [] = ⟨p.out ++ num z.toNat, none⟩ := by
  have e : numsBytes [z] ++ [] = num z.toNat := by simp [numsBytes]
  have := putN_ok (p := p) h (zs := [z]) (s := []) (by simp [mayNum, h0, h1]) (by rw [e]; omega)
  rw [e] at this
  exact this
theorem mayNum_nat (n : Nat) (h : n ≤ top) : mayNum (n : Int) = true := by unfold mayNum; rw [decide_eq_true (Int.natCast_nonneg n), decide_eq_true (Int.ofNat_le.2 h)]; rfl
theorem putN_text {p : Put} {s : List Nat} (h : p.bad = none) (h1 : s.length ≤ 200000) (hl : p.out.length + (textBytes s).length ≤ 65536) : putN p [(s.length : Int)] s = ⟨p.out ++ textBytes s, none⟩ := by
  have e : numsBytes [(s.length : Int)] ++ s = textBytes s := by simp [numsBytes, textBytes]
  have := putN_ok (p := p) h (zs := [(s.length : Int)]) (s := s) (by rw [List.all_cons, mayNum_nat _ (by unfold top; omega)]; rfl) (by rw [e]; omega)
  rw [e] at this
  exact this
theorem putN_flag {p : Put} {b : Bool} (h : p.bad = none) (hl : p.out.length + (flagBytes b).length ≤ 65536) : putN p [if b then 1 else 0] [] = ⟨p.out ++ flagBytes b, none⟩ := by
  cases b
  · exact putN_num h (by decide) (by decide) hl
  · exact putN_num h (by decide) (by decide) hl
theorem numsBytes_counts : ∀ v : List Nat, numsBytes (v.map Int.ofNat) = countsBytes v
  | [] => rfl
  | x :: r => by
    show num (Int.ofNat x).toNat ++ numsBytes (r.map Int.ofNat) = num x ++ countsBytes r
    rw [numsBytes_counts r]
    rfl
theorem putN_vec {p : Put} {v : List Nat} (h : p.bad = none) (hv : trimmed (v.map Int.ofNat) big = true) (hl : p.out.length + (vecBytesN v).length ≤ 65536) : putN p (((v.map Int.ofNat).length : Int) :: v.map Int.ofNat) [] = ⟨p.out ++ vecBytesN v, none⟩ := by
  have e : numsBytes (((v.map Int.ofNat).length : Int) :: v.map Int.ofNat) ++ [] = vecBytesN v := by
    rw [List.append_nil]
    show num (((v.map Int.ofNat).length : Int)).toNat ++ numsBytes (v.map Int.ofNat) = _
    rw [numsBytes_counts, List.length_map]
    rfl
  obtain ⟨h1, h2⟩ := trimmed_counts hv
  have hm : ((((v.map Int.ofNat).length : Int) :: v.map Int.ofNat)).all mayNum = true := by
    rw [List.all_eq_true]
    intro z hz
    rcases List.mem_cons.1 hz with rfl | hz
    · rw [List.length_map]; exact mayNum_nat _ (by unfold top; omega)
    · obtain ⟨y, hy, rfl⟩ := List.mem_map.1 hz
      have := h2 y hy
      unfold big at this
      exact mayNum_nat y (by unfold top; omega)
  have := putN_ok (p := p) h (zs := ((v.map Int.ofNat).length : Int) :: v.map Int.ofNat) (s := []) hm (by rw [e]; omega)
  rw [e] at this
  exact this
theorem countsBytes_len (v : List Nat) : (countsBytes v).length ≤ 9 * v.length := by
  rw [← numsBytes_counts]
  have := numsBytes_len (v.map Int.ofNat)
  rwa [List.length_map] at this
theorem vecBytesN_len {v : List Nat} (h : v.length ≤ 16) : (vecBytesN v).length ≤ 200 := by
  have h1 := countsBytes_len v
  have h2 := num_len v.length
  unfold vecBytesN
  rw [List.length_append]
  omega
theorem textBytes_len {s : List Nat} {k : Nat} (h : s.length ≤ k) : (textBytes s).length ≤ k + 9 := by
  have h2 := num_len s.length
  unfold textBytes
  rw [List.length_append]
  omega
theorem flagBytes_len (b : Bool) : (flagBytes b).length ≤ 9 := num_len _
theorem num_bytes {n : Nat} (h : n ≤ big) : ∀ b ∈ num n, b < 256 := num_lt n (by unfold big at h; omega)
theorem mem_app {a b : List Nat} (ha : ∀ x ∈ a, x < 256) (hb : ∀ x ∈ b, x < 256) : ∀ x ∈ a ++ b, x < 256 := fun x hx => by
  rcases List.mem_append.1 hx with h | h
  · exact ha x h
  · exact hb x h
theorem text_bytes {s : List Nat} (h : s.length ≤ 1000) (hs : ∀ x ∈ s, x < 256) : ∀ x ∈ textBytes s, x < 256 := mem_app (num_lt _ (by omega)) hs
theorem vec_bytes {v : List Nat} (h : trimmed (v.map Int.ofNat) big = true) : ∀ x ∈ vecBytesN v, x < 256 := by
  obtain ⟨h1, h2⟩ := trimmed_counts h
  refine mem_app (num_lt _ (by omega)) fun x hx => ?_
  obtain ⟨y, hy, hx⟩ := List.mem_flatMap.1 hx
  exact num_bytes (h2 y hy) x hx
/-- A right write's bytes are bytes, and few. -/
theorem write_small {v : WriteT} (h : rightWriteT v = true) : (writeBytesT v).length ≤ 1000 := by
  unfold rightWriteT at h
  simp only [Bool.and_eq_true, decide_eq_true_eq] at h
  obtain ⟨⟨⟨⟨⟨⟨⟨⟨⟨⟨⟨⟨_, _⟩, _⟩, _⟩, _⟩, _⟩, h7⟩, _⟩, h9⟩, h10⟩, h11⟩, _⟩, _⟩ := h
  have k1 := num_len v.1
  have k2 := num_len v.2.1
  have k3 := num_len v.2.2.1
  have k4 := vecBytesN_len (trimmed_counts h7).1
  have k5 := textBytes_len h9
  have k6 := textBytes_len h10
  have k7 := flagBytes_len v.2.2.2.2.2.2.1
  have k8 := textBytes_len h11
  have k9 := num_len v.2.2.2.2.2.2.2.2
  unfold writeBytesT
  simp only [List.length_append]
  omega
theorem claims_small {v : ClaimsT} (h : rightClaimsT v = true) : (claimsBytesT v).length ≤ 1000 := by
  unfold rightClaimsT at h
  simp only [Bool.and_eq_true, decide_eq_true_eq] at h
  obtain ⟨⟨⟨⟨⟨⟨⟨_, h2⟩, _⟩, h4⟩, _⟩, _⟩, _⟩, h8⟩ := h
  have k1 := textBytes_len h2
  have k2 := textBytes_len h4
  have k3 := num_len v.2.2.1
  have k4 := num_len v.2.2.2.1
  have k5 := num_len v.2.2.2.2.1
  have k6 := vecBytesN_len (trimmed_counts h8).1
  unfold claimsBytesT
  simp only [List.length_append]
  omega
end WireMath
namespace JournalMath
open WireMath
theorem part_one {n : Nat} (l : List Nat) (h : n ≤ WireMath.top) (hl : l.length ≤ 60000) : putN ⟨l, none⟩ [(n : Int)] [] = ⟨l ++ num n, none⟩ := by
  have := num_len n
  rw [putN_num rfl (by omega) (by omega) (by show l.length + _ ≤ _; rw [Int.toNat_natCast]; omega), Int.toNat_natCast]
theorem part_puts {k g pl : Nat} {t : List Nat} (hk : k ≤ WireMath.top) (hg : g ≤ WireMath.top) (hp : pl ≤ WireMath.top) (ht : t.length ≤ 20000) :
    putN (putN (putN (putN ⟨[], none⟩ [(k : Int)] []) [(g : Int)] []) [(pl : Int)] []) [(t.length : Int)] t = ⟨payload ⟨k, g, pl, t⟩, none⟩ := by
  have h1 := num_len k
  have h2 := num_len g
  have h3 := num_len pl
  have h4 := num_len t.length
  rw [part_one [] hk (by simp), part_one _ hg (by simp; omega), part_one _ hp (by simp; omega), putN_text rfl (by omega) (by simp only [textBytes, List.length_append, List.length_nil]; omega)]
  simp [payload, textBytes]
theorem payload_len (p : Part) : (payload p).length ≤ 36 + p.text.length := by
  have h1 := num_len p.kind
  have h2 := num_len p.gen
  have h3 := num_len p.place
  have h4 := num_len p.text.length
  simp only [payload, List.length_append]
  omega
theorem payload_oct {p : Part} (h : ∀ b ∈ p.text, b < 256) (hk : p.kind ≤ WireMath.top) (hg : p.gen ≤ WireMath.top) (hp : p.place ≤ WireMath.top) (ht : p.text.length ≤ 20000) : ∀ b ∈ payload p, b < 256 := by
  unfold WireMath.top at hk hg hp
  intro b hb
  simp only [payload, List.mem_append] at hb
  rcases hb with hb | hb | hb | hb | hb
  · exact num_lt _ (by omega) b hb
  · exact num_lt _ (by omega) b hb
  · exact num_lt _ (by omega) b hb
  · exact num_lt _ (by omega) b hb
  · exact h b hb
end JournalMath
namespace Go.Proofs.YtajkldmpllphjaaDoor
open Go.RowKit

/-- The ints 'zs' stand from the address 'pp' on. -/
def Ints (w : World) (pp : Option Addr) (zs : List Int) : Prop := ∀ (i : Nat) (z : Int), zs[i]? = some z → (-9223372036854775808 ≤ z ∧ z ≤ 9223372036854775807) ∧ ∃ b off, pp = some ⟨b, off, none⟩ ∧ w.cell? ⟨b, off + i, none⟩ = some (.int .i64 z)
theorem Ints.grown {w w' : World} {pp : Option Addr} {zs : List Int} (h : Ints w pp zs) (hb : Below w.heap.size w w') : Ints w' pp zs := fun i z hz => by
  obtain ⟨hr, b, off, hp, hc⟩ := h i z hz
  refine ⟨hr, b, off, hp, ?_⟩
  have hl : b < w.heap.size := by
    rcases Nat.lt_or_ge b w.heap.size with g | g
    · exact g
    · simp [World.cell?, Array.getElem?_eq_none g] at hc
  exact (hb.cell (p := ⟨b, off + i, none⟩) hl).trans hc
theorem Ints.drewN {w : World} {pp : Option Addr} {zs : List Int} (n : Nat) (h : Ints w pp zs) : Ints { w with drawn := w.drawn + n } pp zs := h
end Go.Proofs.YtajkldmpllphjaaDoor
namespace Go.Proofs.YtajkldmpllphjaaDoor
open Go.RowKit

/-- Numbers, as values of a kind. -/
def natVals (k : IntKind) (l : List Nat) : List Value := l.map fun (z : Nat) => Value.int k (z : Int)
theorem natVals_len (k : IntKind) (l : List Nat) : (natVals k l).length = l.length := by simp [natVals]
theorem natVals_at (k : IntKind) (l : List Nat) (i : Nat) : (natVals k l)[i]? = l[i]?.map fun (z : Nat) => Value.int k (z : Int) := by simp [natVals]
theorem natVals_set (k : IntKind) (l : List Nat) (i z : Nat) : (natVals k l).set i (.int k (z : Int)) = natVals k (l.set i z) := by simp [natVals, List.map_set]
theorem natVals_append (k : IntKind) (a b : List Nat) : natVals k (a ++ b) = natVals k a ++ natVals k b := by simp [natVals]
/-- An array of numbers, as a value. -/
def natsVal (k : IntKind) (l : List Nat) : Value := .agg (natVals k l).toArray

/-- The block g is an array of these numbers. -/
def Arr (g : Nat) (t : TypeId) (k : IntKind) (l : List Nat) (w : World) : Prop := w.heap[g]? = some (.cells (natVals k l).toArray t (0, 0))

section
variable {g : Nat} {t : TypeId} {k : IntKind} {l : List Nat} {w w' : World}
theorem Arr.lt (h : Arr g t k l w) : g < w.heap.size := (Array.getElem?_eq_some_iff.1 h).1
theorem Arr.cell (h : Arr g t k l w) {i z : Nat} (hz : l[i]? = some z) : w.cell? ⟨g, i, none⟩ = some (.int k (z : Int)) := by
  rw [cell_of_row w g i _ t (0, 0) h]
  simp [natVals, hz]
theorem Arr.cellD (h : Arr g t k l w) {i : Nat} (hi : i < l.length) : w.cell? ⟨g, i, none⟩ = some (.int k (l.getD i 0 : Nat)) := h.cell (by simp [List.getD, hi])
theorem Arr.free (h : Arr g t k l w) (i : Nat) : w.frozen? ⟨g, i, none⟩ = false := frozen_of_row w g i _ t h
theorem Arr.set (h : Arr g t k l w) (i z : Nat) : Arr g t k (l.set i z) (w.setCell ⟨g, i, none⟩ (.int k (z : Int))) := by
  have := heap_setCell_same (i := i) w g _ t (.int k (z : Int)) h
  unfold Arr
  rw [this, ← natVals_set]
  simp
theorem Arr.other (h : Arr g t k l w) (a : Addr) (v : Value) (hne : g ≠ a.block) : Arr g t k l (w.setCell a v) := (heap_setCell_other w a g v hne).trans h
theorem Arr.kept (h : Arr g t k l w) {B : Nat} (hb : Below B w w') (hg : g < B) : Arr g t k l w' := (hb.block g hg).trans h
theorem Arr.alloc (h : Arr g t k l w) (o : Obj) : Arr g t k l (w.alloc o) := ((by first | exact heap_alloc_old w o g h.lt | exact heap_alloc_old w o h.lt : (w.alloc o).heap[g]? = w.heap[g]?)).trans h
theorem Arr.drew (h : Arr g t k l w) : Arr g t k l w.drew := h
theorem Arr.new (w : World) (t : TypeId) (k : IntKind) (l : List Nat) : Arr w.heap.size t k l (w.alloc (.cells (natVals k l).toArray t)) := heap_alloc_new w _
theorem Arr.row (h : Arr g t k l w) (l' : List Nat) : Arr g t k l' (w.setRow g (natVals k l').toArray) := setRow_heap w g _ _ t _ h
theorem Arr.rowOther {g' : Nat} (h : Arr g t k l w) (cs : Array Value) (hne : g ≠ g') : Arr g t k l (w.setRow g' cs) := (setRow_other w g' g cs hne).trans h
end

open TextNat in
theorem run_copy_text {P : Program} (w : World) (dT sT ty elem : TypeId) (g dLen dCap : Nat) (s : ByteArray) (l : List Nat) (t : TypeId)
    (hu : P.underlying dT = some (.slice elem)) (hs : (P.info? elem).map (·.size) = some 1) (hg : Arr g t .u8 l w) (hl : l.length = dLen) :
    (Builtin.copy_ #[dT, sT] ty #[.slice (some ⟨g, 0, none⟩) dLen dCap, .string s]).run P w =
      .ok (goInt (Nat.min s.size dLen)) (w.setRow g (natVals .u8 ((nats s).take dLen ++ l.drop s.size)).toArray) := by
  have hv : List.take (Nat.min s.size dLen) (List.map (fun b : UInt8 => Value.int IntKind.u8 (b.toNat : Int)) s.data.toList) = natVals .u8 ((nats s).take dLen) := by
    have e : List.map (fun b : UInt8 => Value.int IntKind.u8 (b.toNat : Int)) s.data.toList = natVals .u8 (nats s) := by simp [natVals, nats, Function.comp_def]
    rw [e]
    have hn : (natVals .u8 (nats s)).length = s.size := by rw [natVals_len, nats_len]
    have e2 : natVals .u8 ((nats s).take dLen) = (natVals .u8 (nats s)).take dLen := by simp [natVals, List.map_take]
    rw [e2]
    by_cases h : s.size ≤ dLen
    · rw [show Nat.min s.size dLen = s.size from Nat.min_eq_left h, List.take_of_length_le (by omega), List.take_of_length_le (by omega)]
    · rw [show Nat.min s.size dLen = dLen from Nat.min_eq_right (by omega)]
  have hlen : (natVals .u8 ((nats s).take dLen)).length = Nat.min s.size dLen := by
    rw [natVals_len, List.length_take, nats_len]
    exact Nat.min_comm _ _
  have hst := run_storeCells_at (P := P) g 0 t (natVals .u8 ((nats s).take dLen)) 0 _ w hg (by rw [hlen]; simp only [List.size_toArray, natVals_len, hl]; have := Nat.min_le_right s.size dLen; show 0 + 0 + min s.size dLen ≤ dLen; omega) (fun v hv => by
    obtain ⟨z, _, rfl⟩ := List.mem_map.1 hv
    rfl)
  have hd : l.drop (Nat.min s.size dLen) = l.drop s.size := by
    by_cases h : s.size ≤ dLen
    · rw [show Nat.min s.size dLen = s.size from Nat.min_eq_left h]
    · rw [show Nat.min s.size dLen = dLen from Nat.min_eq_right (by omega), List.drop_of_length_le (by omega), List.drop_of_length_le (by omega)]
  rw [hlen] at hst
  simp only [Nat.add_zero, Nat.zero_add, List.take_zero, List.nil_append] at hst
  have hdd : (natVals .u8 l).drop (Nat.min s.size dLen) = natVals .u8 (l.drop s.size) := by
    rw [← hd]; simp [natVals, List.map_drop]
  rw [hdd, ← natVals_append] at hst
  cases hq : P.info? elem with
  | none => simp [hq] at hs
  | some i =>
    have h1 : i.size = 1 := by simpa [hq] using hs
    simp [Builtin.copy_, run_underlying hu, Builtin.lenOf, Builtin.firstCells, sizeOf, typeInfo, hq]
    rw [hv, hst]
    simp [Result.andThen]

open TextNat in
/-- copy(b[:], s), b an array of the call's own. -/
theorem wpList_copy_text {P : Program} {w : World} {ops : Array Oper} {rest : List Oper} {o : Oper} {a : Act} {Q : Exit → Act → World → Prop} (hgd : o.guard = none) (d x : Operand) (dT sT : TypeId)
    (ho : o.op = .call { callee := .builtin .copy, args := #[d, x], argTypes := #[dT, sT] }) (elem : TypeId) (hu : P.underlying dT = some (.slice elem)) (hsz : (P.info? elem).map (·.size) = some 1)
    (g dLen dCap : Nat) (s : ByteArray) (hd : a.eval d = .slice (some ⟨g, 0, none⟩) dLen dCap) (hx : a.eval x = .string s) (t : TypeId) (l : List Nat) (hg : Arr g t .u8 l w) (hl : l.length = dLen)
    (h : wpList P ops Q rest (a.put o.dst (goInt (Nat.min s.size dLen))) (w.setRow g (natVals .u8 ((nats s).take dLen ++ l.drop s.size)).toArray)) : wpList P ops Q (o :: rest) a w := by
  refine wpList_plain hgd fun K hK => ?_
  have hrun := run_copy_text (P := P) w dT sT o.type elem g dLen dCap s l t hu hsz hg hl
  unfold Oper.wp
  simp [execOp, ho, resolve, invoke, builtin, hd, hx, hrun, Result.andThen]
  exact hK _ _ h

open TextNat in
/-- .. with what comes of it named. -/
theorem wpList_copy_text_to {P : Program} {w : World} {ops : Array Oper} {rest : List Oper} {o : Oper} {a : Act} {Q : Exit → Act → World → Prop} (hgd : o.guard = none) (d x : Operand) (dT sT : TypeId)
    (ho : o.op = .call { callee := .builtin .copy, args := #[d, x], argTypes := #[dT, sT] }) (elem : TypeId) (hu : P.underlying dT = some (.slice elem)) (hsz : (P.info? elem).map (·.size) = some 1)
    (g dLen dCap : Nat) (s : ByteArray) (hd : a.eval d = .slice (some ⟨g, 0, none⟩) dLen dCap) (hx : a.eval x = .string s) (t : TypeId) (l : List Nat) (hg : Arr g t .u8 l w) (hl : l.length = dLen)
    (n : Nat) (hn : min s.size dLen = n) (C : Array Value) (hC : C = (natVals .u8 ((nats s).take dLen ++ l.drop s.size)).toArray)
    (h : wpList P ops Q rest (a.put o.dst (.int .i64 (n : Int))) (w.setRow g C)) : wpList P ops Q (o :: rest) a w := by
  refine wpList_copy_text hgd d x dT sT ho elem hu hsz g dLen dCap s hd hx t l hg hl ?_
  rw [← hC, show Nat.min s.size dLen = n from hn]
  exact h
end Go.Proofs.YtajkldmpllphjaaDoor
namespace Go.Proofs.YtajkldmpllphjaaDoor
open Go.RowKit

/-- Bytes, as values. -/
def byteVals (zs : List Nat) : List Value := zs.map fun (z : Nat) => Value.int .u8 (z : Int)
theorem byteVals_len (zs : List Nat) : (byteVals zs).length = zs.length := by simp [byteVals]
theorem byteVals_at (zs : List Nat) (i : Nat) : (byteVals zs)[i]? = zs[i]?.map fun (z : Nat) => Value.int .u8 (z : Int) := by simp [byteVals]
theorem byteVals_set (zs : List Nat) (i z : Nat) : (byteVals zs).set i (.int .u8 (z : Int)) = byteVals (zs.set i z) := by simp [byteVals, List.map_set]
theorem byteVals_one (zs : List Nat) : ∀ u ∈ byteVals zs, u.oneCell' = true := by
  intro u hu
  obtain ⟨z, _, rfl⟩ := List.mem_map.1 hu
  rfl
/-- The cells that a slice of bytes came in with are these values. -/
theorem Bytes.news {w : World} {b off : Nat} {zs : List Nat} (h : Bytes w (some ⟨b, off, none⟩) zs) : ∀ j u, (byteVals zs)[j]? = some u → w.cell? ((⟨b, off, none⟩ : Addr).add j) = some u := by
  intro j u hu
  rw [byteVals_at] at hu
  obtain ⟨z, hz, rfl⟩ := Option.map_eq_some_iff.1 hu
  obtain ⟨_, b', off', hp, hc⟩ := h j z hz
  simp only [Option.some.injEq, Addr.mk.injEq] at hp
  obtain ⟨rfl, rfl, _⟩ := hp
  rw [WideShapes.add_plain]
  exact hc
/-- A row that is owned, of at least one byte. -/
theorem bytes_of_own {zs : List Nat} {base n : Nat} {v : Value} {e : TypeId} {w : World} (h : w.ownsRow base e 1 v n (byteVals zs)) (hn : n = zs.length) (hz : ∀ i z : Nat, zs[i]? = some z → z < 256) (h0 : 0 < n) :
    ∃ G cap, v = .slice (some ⟨G, 0, none⟩) n cap ∧ base ≤ G ∧ G < w.heap.size ∧ (∀ j, w.frozen? ⟨G, j, none⟩ = false) ∧ Bytes w (some ⟨G, 0, none⟩) zs := by
  rcases h.2 with ⟨_, h1⟩ | ⟨G, cap, cur, rfl, hG, hh, _⟩
  · omega
  · refine ⟨G, cap, rfl, hG, (h.lt G rfl).2, fun j => h.frozenAt j, fun i z hi => ⟨hz i z hi, G, 0, rfl, ?_⟩⟩
    have hlt : i < n := by rw [hn]; exact (List.getElem?_eq_some_iff.1 hi).1
    rw [Nat.zero_add, h.cellAt i (by omega), byteVals_at, hi]
    rfl
end Go.Proofs.YtajkldmpllphjaaDoor
namespace Go.Proofs.YtajkldmpllphjaaDoor
open Go.RowKit TextNat

theorem info_int : (Tryd.prog.info? 3).map (fun i => (i.zero, i.size, i.bytes)) = some (some (.int .i64 0), 1, 8) := by kernel_rfl

/-- The cell that a row of one value is made with. -/
theorem one_put (w : World) (u : Value) (T : TypeId) (B : Nat) (hB : B = w.heap.size) : ∀ j x, [u][j]? = some x → (w.alloc (.cells #[u] T)).cell? ((⟨B, 0, none⟩ : Addr).add j) = some x := by
  subst hB
  intro j x hj
  match j, hj with
  | 0, hj => simp at hj; subst hj; simp [Addr.add]

/-- A row of one's own, where another block alone is written. -/
theorem OwnsM.but {w w' : World} {pb base : Nat} {e : TypeId} {v : Value} {n : Nat} {xs : List Value} (h : OwnsM w base e v n xs) (hb : But pb w w') (hp : pb < base) : OwnsM w' base e v n xs := by
  refine ⟨h.1, ?_⟩
  rcases h.2 with hn | ⟨g, cap, cur, lo, hi, rfl, hb2, hgg, rest⟩
  · exact .inl hn
  · exact .inr ⟨g, cap, cur, lo, hi, rfl, hb2, (hb.block g (Array.getElem?_eq_some_iff.1 hgg).1 (by omega)).trans hgg, rest⟩
theorem But.of_grown {pb : Nat} {w wa w2 : World} {row : Option Nat} (h : But pb w wa) (hg : wa.grownBy w2 row) (hr : ∀ q, row = some q → w.heap.size ≤ q) : But pb w w2 :=
  ⟨hg.os.trans h.os, hg.tape.trans h.tape, hg.output.trans h.output, Nat.le_trans h.size hg.size, fun k hk hn => (hg.block k (Nat.lt_of_lt_of_le hk h.size) (fun e => by have := hr k e.symm; omega)).trans (h.block k hk hn)⟩
end Go.Proofs.YtajkldmpllphjaaDoor
namespace Go.Proofs.YtajkldmpllphjaaDoor
open Go.RowKit TextNat

theorem info_byte : (Tryd.prog.info? 5).map (fun i => (i.zero, i.size, i.bytes)) = some (some (.int .u8 0), 1, 1) := by kernel_rfl
/-- Bytes in memory, as a text. -/
theorem text_row (w : World) (B cap : Nat) (D : List Nat) (hD : ∀ b ∈ D, b < 256) (hc : ∀ j, j < D.length → w.cell? ⟨B, j, none⟩ = (natVals .u8 D)[j]?) :
    (convert 54 9 (.slice (some ⟨B, 0, none⟩) D.length cap)).run Tryd.prog w = .ok (.string (txt D)) w := by
  have h := run_convert_bytes_back (P := Tryd.prog) w 54 9 5 ⟨B, 0, none⟩ cap (D.map UInt8.ofNat) Tryd.underlying54 Tryd.underlying5 Tryd.underlying9 (fun j hj => by
    have hj' : j < D.length := by simpa using hj
    rw [WideShapes.add_plain, Nat.zero_add, hc j hj', natVals_at, List.getElem?_eq_getElem hj']
    have hb := hD D[j] (List.getElem_mem hj')
    simp [Nat.mod_eq_of_lt hb])
  rw [List.length_map] at h
  exact h
end Go.Proofs.YtajkldmpllphjaaDoor
