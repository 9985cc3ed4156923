/-
  Texts of one claim, merged.
  WireGood: Plain mathematics of chapter 5: readers that read just what is written, one behind the other; writes and claims. No program, no conditions but those typed.
  WirePut: Plain mathematics of chapter 5: what one call puts: some numbers, and bytes behind them. No program, no conditions but those typed.
  WireEncMath: Plain mathematics of chapter 5: what a right write's things, put one behind the other, come to. No program, no conditions but those typed.
-/
import Derived.Test.YtajhegjemhegiaaDoorPart10
namespace WireMath

/-- A reader 'p' of 'l' that reads just what 'e' writes of what may be ('P'). -/
structure Good {α : Type} (l : List Nat) (p : At → α × At) (e : α → List Nat) (P : α → Prop) : Prop where
  sound : ∀ (a : Nat) (v : α) (b : Nat), a ≤ l.length → p ⟨a, none⟩ = (v, ⟨b, none⟩) → P v ∧ l.drop a = e v ++ l.drop b ∧ b ≤ l.length
  back : ∀ (a : Nat) (v : α) (r : List Nat), a ≤ l.length → P v → l.drop a = e v ++ r → p ⟨a, none⟩ = (v, ⟨a + (e v).length, none⟩)
  stuck : ∀ (a b : Nat), ∃ v c d, p ⟨a, some b⟩ = (v, ⟨c, some d⟩)

theorem drop_more {l r s : List Nat} {a : Nat} (ha : a ≤ l.length) (h : l.drop a = s ++ r) : l.drop (a + s.length) = r ∧ a + s.length ≤ l.length := by
  constructor
  · rw [← List.drop_drop, h, List.drop_left]
  · have := congrArg List.length h
    rw [List.length_drop, List.length_append] at this
    omega

/-- One reader, then another one. -/
def seq {α β : Type} (p : At → α × At) (q : At → β × At) (st : At) : (α × β) × At := (((p st).1, (q (p st).2).1), (q (p st).2).2)
theorem Good.seq {α β : Type} {l : List Nat} {p : At → α × At} {e : α → List Nat} {P : α → Prop} {q : At → β × At} {f : β → List Nat} {Q : β → Prop} (h : Good l p e P) (k : Good l q f Q) :
    Good l (WireMath.seq p q) (fun v => e v.1 ++ f v.2) (fun v => P v.1 ∧ Q v.2) := by
  refine ⟨?_, ?_, ?_⟩
  · intro a v b ha hv
    unfold WireMath.seq at hv
    rcases hp : p ⟨a, none⟩ with ⟨x, c, bad⟩
    rw [hp] at hv
    simp only at hv
    cases bad with
    | some d =>
      obtain ⟨y, c2, d2, hq⟩ := k.stuck c d
      rw [hq] at hv
      simp at hv
    | none =>
      obtain ⟨h1, h2, h3⟩ := h.sound a x c ha hp
      rcases hq : q ⟨c, none⟩ with ⟨y, st2⟩
      rw [hq] at hv
      simp only [Prod.mk.injEq] at hv
      obtain ⟨rfl, rfl⟩ := hv
      obtain ⟨k1, k2, k3⟩ := k.sound c y b h3 hq
      exact ⟨⟨h1, k1⟩, by rw [h2, k2, List.append_assoc], k3⟩
  · intro a v r ha hP hl
    rw [List.append_assoc] at hl
    have h1 := h.back a v.1 _ ha hP.1 hl
    obtain ⟨h2, h3⟩ := drop_more ha hl
    have h4 := k.back _ v.2 r h3 hP.2 h2
    unfold WireMath.seq
    rw [h1]
    simp only
    rw [h4]
    simp only [List.length_append, Nat.add_assoc]
  · intro a b
    obtain ⟨v, c, d, hp⟩ := h.stuck a b
    obtain ⟨y, c2, d2, hq⟩ := k.stuck c d
    exact ⟨(v, y), c2, d2, by unfold WireMath.seq; rw [hp]; simp only; rw [hq]⟩

/-- Numbers. -/
theorem good_num (l : List Nat) (hl : ∀ b ∈ l, b < 256) (most : Int) : Good l (fun st => readNum l st most) num (fun v => (v : Int) ≤ most ∧ v ≤ top) := by
  refine ⟨?_, ?_, ?_⟩
  · intro a v b ha hv
    unfold readNum at hv
    simp only at hv
    cases hn : next (l.drop a) most with
    | none => rw [hn] at hv; simp at hv
    | some p =>
      obtain ⟨v2, k⟩ := p
      rw [hn] at hv
      simp only [Prod.mk.injEq, At.mk.injEq] at hv
      obtain ⟨rfl, rfl, _⟩ := hv
      obtain ⟨h1, h2, h3, r, h4⟩ := next_says (fun b hb => hl b (List.mem_of_mem_drop hb)) hn
      obtain ⟨h5, h6⟩ := drop_more ha h4
      rw [← h3] at h5 h6
      exact ⟨⟨h1, h2⟩, by rw [h5]; exact h4, h6⟩
  · intro a v r ha hP hv
    show readNum l ⟨a, none⟩ most = _
    unfold readNum
    simp only
    rw [hv, next_num v r most hP.1 hP.2]
  · intro a b
    exact ⟨0, a, b, rfl⟩
theorem readNum_stuck (l : List Nat) (a b : Nat) (most : Int) : readNum l ⟨a, some b⟩ most = (0, ⟨a, some b⟩) := rfl

/-- Texts. -/
def textBytes (t : List Nat) : List Nat := num t.length ++ t
theorem good_text (l : List Nat) (hl : ∀ b ∈ l, b < 256) (most : Int) : Good l (fun st => readText l st most) textBytes (fun t => (t.length : Int) ≤ most ∧ t.length ≤ top) := by
  have hn := good_num l hl most
  refine ⟨?_, ?_, ?_⟩
  · intro a v b ha hv
    unfold readText at hv
    simp only at hv
    rcases hr : readNum l ⟨a, none⟩ most with ⟨x, c, bad⟩
    rw [hr] at hv
    cases bad with
    | some d => simp at hv
    | none =>
      simp only at hv
      obtain ⟨⟨h1, h1'⟩, h2, h3⟩ := hn.sound a x c ha hr
      split at hv
      · simp at hv
      · rename_i hlt
        simp only [Prod.mk.injEq, At.mk.injEq] at hv
        obtain ⟨rfl, rfl, _⟩ := hv
        have hx : ((l.drop c).take x).length = x := by rw [List.length_take, List.length_drop]; omega
        refine ⟨by rw [hx]; exact ⟨h1, h1'⟩, ?_, by omega⟩
        unfold textBytes
        rw [hx, h2, List.append_assoc, ← List.drop_drop, List.take_append_drop]
  · intro a v r ha hP hv
    unfold textBytes at hv
    rw [List.append_assoc] at hv
    have h1 := hn.back a v.length _ ha hP hv
    obtain ⟨h2, h3⟩ := drop_more ha hv
    obtain ⟨h4, h5⟩ := drop_more h3 h2
    show readText l ⟨a, none⟩ most = _
    unfold readText
    simp only [h1]
    rw [if_neg (by omega), h2, List.take_left]
    unfold textBytes
    rw [List.length_append, Nat.add_assoc]
  · intro a b
    exact ⟨[], a, b, rfl⟩

/-- Flags. -/
def flagBytes (b : Bool) : List Nat := num (if b then 1 else 0)
theorem good_flag (l : List Nat) (hl : ∀ b ∈ l, b < 256) : Good l (fun st => readFlag l st) flagBytes (fun _ => True) := by
  have hn := good_num l hl 1
  refine ⟨?_, ?_, ?_⟩
  · intro a v b ha hv
    unfold readFlag at hv
    rcases hr : readNum l ⟨a, none⟩ 1 with ⟨x, c, bad⟩
    rw [hr] at hv
    simp only [Prod.mk.injEq, At.mk.injEq] at hv
    obtain ⟨rfl, rfl, rfl⟩ := hv
    obtain ⟨⟨h1, _⟩, h2, h3⟩ := hn.sound a x c ha hr
    refine ⟨trivial, ?_, h3⟩
    have : x = 0 ∨ x = 1 := by omega
    rcases this with rfl | rfl
    · exact h2
    · exact h2
  · intro a v r ha _ hv
    have h1 := hn.back a (if v then 1 else 0) r ha (by cases v <;> decide) hv
    show readFlag l ⟨a, none⟩ = _
    unfold readFlag
    rw [h1]
    cases v <;> rfl
  · intro a b
    exact ⟨false, a, b, rfl⟩

/-- Vectors. -/
def countsBytes (v : List Nat) : List Nat := v.flatMap num
theorem counts_sound (l : List Nat) (hl : ∀ b ∈ l, b < 256) : ∀ (n a b : Nat) (v : List Nat), a ≤ l.length → readCounts l n ⟨a, none⟩ = (v, ⟨b, none⟩) → v.length = n ∧ (∀ z ∈ v, z ≤ big) ∧ l.drop a = countsBytes v ++ l.drop b ∧ b ≤ l.length
  | 0, a, b, v, ha, h => by
    simp only [readCounts, Prod.mk.injEq, At.mk.injEq, and_true] at h
    obtain ⟨rfl, rfl⟩ := h
    exact ⟨rfl, (fun z hz => by cases hz), rfl, ha⟩
  | n + 1, a, b, v, ha, h => by
    rw [readCounts_step] at h
    rcases hr : readNum l ⟨a, none⟩ big with ⟨x, c, bad⟩
    rw [hr] at h
    simp only [Prod.mk.injEq] at h
    obtain ⟨rfl, h⟩ := h
    cases bad with
    | some d =>
      exfalso
      have hs : ∀ n, (readCounts l n ⟨c, some d⟩).2 = ⟨c, some d⟩ := by
        intro n
        induction n with
        | zero => rfl
        | succ n ih => rw [readCounts_step, readNum_stuck]; exact ih
      rw [hs] at h
      cases h
    | none =>
      obtain ⟨⟨h1, _⟩, h2, h3⟩ := (good_num l hl big).sound a x c ha hr
      rcases hq : readCounts l n ⟨c, none⟩ with ⟨y, st⟩
      rw [hq] at h
      simp only at h
      subst h
      obtain ⟨k1, k2, k3, k4⟩ := counts_sound l hl n c b y h3 hq
      refine ⟨by simp [k1], ?_, ?_, k4⟩
      · intro z hz
        rcases List.mem_cons.1 hz with rfl | hz
        · omega
        · exact k2 z hz
      · show l.drop a = (num x ++ countsBytes y) ++ l.drop b
        rw [h2, k3, List.append_assoc]
theorem counts_back (l : List Nat) (hl : ∀ b ∈ l, b < 256) : ∀ (v : List Nat) (a : Nat) (r : List Nat), a ≤ l.length → (∀ z ∈ v, z ≤ big) → l.drop a = countsBytes v ++ r → readCounts l v.length ⟨a, none⟩ = (v, ⟨a + (countsBytes v).length, none⟩)
  | [], a, r, _, _, _ => rfl
  | x :: v, a, r, ha, hz, h => by
    have h' : l.drop a = num x ++ (countsBytes v ++ r) := by rw [h]; show (num x ++ countsBytes v) ++ r = _; rw [List.append_assoc]
    have hx := hz x (List.mem_cons_self ..)
    have h1 := (good_num l hl big).back a x _ ha ⟨by omega, by unfold big at hx; unfold top; omega⟩ h'
    obtain ⟨h2, h3⟩ := drop_more ha h'
    have h4 := counts_back l hl v _ r h3 (fun z h => hz z (List.mem_cons_of_mem _ h)) h2
    rw [List.length_cons, readCounts_step, h1]
    simp only
    rw [h4]
    simp only [Prod.mk.injEq, At.mk.injEq, and_true, true_and]
    show _ = a + (num x ++ countsBytes v).length
    rw [List.length_append, Nat.add_assoc]
theorem trimmed_counts {v : List Nat} (h : trimmed (v.map Int.ofNat) big = true) : v.length ≤ 16 ∧ ∀ z ∈ v, z ≤ big := by
  unfold trimmed at h
  simp only [Bool.and_eq_true, decide_eq_true_eq, List.all_eq_true, List.length_map] at h
  obtain ⟨⟨h1, h2⟩, _⟩ := h
  refine ⟨h1, fun z hz => ?_⟩
  have := (h2 (Int.ofNat z) (List.mem_map_of_mem hz)).2
  exact Int.ofNat_le.1 this
def vecBytesN (v : List Nat) : List Nat := num v.length ++ countsBytes v
theorem good_vec (l : List Nat) (hl : ∀ b ∈ l, b < 256) : Good l (fun st => readVec l st) vecBytesN (fun v => trimmed (v.map Int.ofNat) big = true) := by
  have hn := good_num l hl 16
  refine ⟨?_, ?_, ?_⟩
  · intro a v b ha hv
    unfold readVec at hv
    simp only at hv
    rcases hr : readNum l ⟨a, none⟩ 16 with ⟨x, c, bad⟩
    rw [hr] at hv
    simp only at hv
    rcases hq : readCounts l x ⟨c, bad⟩ with ⟨y, d, bad2⟩
    rw [hq] at hv
    cases bad2 with
    | some z => simp at hv
    | none =>
      simp only at hv
      split at hv
      · rename_i ht
        simp only [Prod.mk.injEq, At.mk.injEq] at hv
        obtain ⟨rfl, rfl, _⟩ := hv
        cases bad with
        | some z =>
          exfalso
          have hs : ∀ n, (readCounts l n ⟨c, some z⟩).2 = ⟨c, some z⟩ := by
            intro n
            induction n with
            | zero => rfl
            | succ n ih => rw [readCounts_step, readNum_stuck]; exact ih
          have := hs x
          rw [hq] at this
          cases this
        | none =>
          obtain ⟨⟨h1, _⟩, h2, h3⟩ := hn.sound a x c ha hr
          obtain ⟨k1, k2, k3, k4⟩ := counts_sound l hl x c d y h3 hq
          refine ⟨ht, ?_, k4⟩
          unfold vecBytesN
          rw [k1, h2, k3, List.append_assoc]
      · simp at hv
  · intro a v r ha hP hv
    obtain ⟨t1, t2⟩ := trimmed_counts hP
    unfold vecBytesN at hv
    rw [List.append_assoc] at hv
    have h1 := hn.back a v.length _ ha ⟨by omega, by unfold top; omega⟩ hv
    obtain ⟨h2, h3⟩ := drop_more ha hv
    have h4 := counts_back l hl v _ r h3 t2 h2
    show readVec l ⟨a, none⟩ = _
    unfold readVec
    simp only [h1]
    rw [h4]
    simp only
    rw [if_pos hP]
    unfold vecBytesN
    rw [List.length_append, Nat.add_assoc]
  · intro a b
    exact ⟨[], a, b, rfl⟩

/-- A reader that reads no more than it may reads as one that reads more. -/
theorem Good.cover {α : Type} {l : List Nat} {p : At → α × At} {e : α → List Nat} {P Q : α → Prop} (h : Good l p e P) (k : ∀ v, Q v → P v) {v : α} (hq : Q v) (hl : l = e v) : p ⟨0, none⟩ = (v, ⟨l.length, none⟩) := by
  have := h.back 0 v [] (Nat.zero_le _) (k v hq) (by rw [List.drop_zero, List.append_nil]; exact hl)
  rw [this, hl, Nat.zero_add]
/-- What is read to its end, if it may be. -/
def whole {α : Type} (l : List Nat) (p : At → α × At) (Q : α → Bool) : Option α :=
  if faultAt l (p ⟨0, none⟩).2 = none ∧ Q (p ⟨0, none⟩).1 = true then some (p ⟨0, none⟩).1 else none
theorem Good.whole {α : Type} {l : List Nat} {p : At → α × At} {e : α → List Nat} {P : α → Prop} {Q : α → Bool} (h : Good l p e P) (k : ∀ v, Q v = true → P v) (v : α) : WireMath.whole l p Q = some v ↔ Q v = true ∧ l = e v := by
  unfold WireMath.whole
  constructor
  · intro hw
    split at hw
    · rename_i hc
      obtain ⟨h1, h2⟩ := hc
      obtain rfl := Option.some.inj hw
      refine ⟨h2, ?_⟩
      rcases hp : p ⟨0, none⟩ with ⟨x, a, bad⟩
      rw [hp] at h1 h2
      unfold faultAt at h1
      cases bad with
      | some b => simp at h1
      | none =>
        simp only at h1
        split at h1
        · cases h1
        · rename_i hlt
          obtain ⟨_, s2, s3⟩ := h.sound 0 x a (Nat.zero_le _) hp
          rw [List.drop_zero, List.drop_of_length_le (by omega), List.append_nil] at s2
          exact s2
    · cases hw
  · rintro ⟨hq, hl⟩
    have hp := h.cover k hq hl
    rw [hp]
    unfold faultAt
    simp only
    rw [if_neg (Nat.lt_irrefl _), if_pos ⟨rfl, hq⟩]
theorem Good.whole_none {α : Type} {l : List Nat} {p : At → α × At} {e : α → List Nat} {P : α → Prop} {Q : α → Bool} (h : Good l p e P) (k : ∀ v, Q v = true → P v) : WireMath.whole l p Q = none ↔ ∀ v, Q v = true → l ≠ e v := by
  constructor
  · intro hn v hq hl
    have := (h.whole k v).2 ⟨hq, hl⟩
    rw [hn] at this
    cases this
  · intro ha
    cases hw : WireMath.whole l p Q with
    | none => rfl
    | some v =>
      have := (h.whole k v).1 hw
      exact absurd this.2 (ha v this.1)
/-- What is written has no beginning that is written, but itself. -/
theorem Good.prefixFree {α : Type} {p : List Nat → At → α × At} {e : α → List Nat} {P : α → Prop} (h : ∀ l, (∀ b ∈ l, b < 256) → Good l (p l) e P) {v w : α} {r : List Nat} (hv : P v) (hw : P w) (hb : ∀ b ∈ e v, b < 256) (hl : e v = e w ++ r) : v = w ∧ r = [] := by
  have g := h (e v) hb
  have h1 := g.back 0 v [] (Nat.zero_le _) hv (by rw [List.drop_zero, List.append_nil])
  have h2 := g.back 0 w r (Nat.zero_le _) hw (by rw [List.drop_zero]; exact hl)
  rw [h1] at h2
  simp only [Prod.mk.injEq, At.mk.injEq, and_true] at h2
  refine ⟨h2.1, ?_⟩
  have := congrArg List.length hl
  rw [List.length_append] at this
  exact List.length_eq_zero_iff.1 (by omega)

/-- A write: region, number, time, what it follows, session, key, gone, value, life. -/
structure WriteF where
  region : Nat
  number : Nat
  time : Nat
  deps : List Nat
  session : List Nat
  key : List Nat
  gone : Bool
  value : List Nat
  life : Nat
deriving DecidableEq
abbrev WriteT := Nat × Nat × Nat × List Nat × List Nat × List Nat × Bool × List Nat × Nat
def writeBytesT (v : WriteT) : List Nat := num v.1 ++ (num v.2.1 ++ (num v.2.2.1 ++ (vecBytesN v.2.2.2.1 ++ (textBytes v.2.2.2.2.1 ++ (textBytes v.2.2.2.2.2.1 ++ (flagBytes v.2.2.2.2.2.2.1 ++ (textBytes v.2.2.2.2.2.2.2.1 ++ num v.2.2.2.2.2.2.2.2)))))))
/-- Its reader, with the most that each may be. -/
def readWriteT (l : List Nat) (m1 m2 m3 m5 m6 m8 m9 : Int) : At → WriteT × At :=
  seq (fun st => readNum l st m1) (seq (fun st => readNum l st m2) (seq (fun st => readNum l st m3) (seq (fun st => readVec l st) (seq (fun st => readText l st m5) (seq (fun st => readText l st m6) (seq (fun st => readFlag l st) (seq (fun st => readText l st m8) (fun st => readNum l st m9))))))))
def rightWriteT (v : WriteT) : Bool :=
  decide (1 ≤ v.1) && decide (v.1 ≤ 16) && decide (1 ≤ v.2.1) && decide (v.2.1 ≤ big) && decide (1 ≤ v.2.2.1) && decide (v.2.2.1 ≤ big) && trimmed (v.2.2.2.1.map Int.ofNat) big && decide (1 ≤ v.2.2.2.2.1.length) && decide (v.2.2.2.2.1.length ≤ 64) && decide (v.2.2.2.2.2.1.length ≤ 32) && decide (v.2.2.2.2.2.2.2.1.length ≤ 128) && (decide (v.2.2.2.2.2.2.2.1.length = 0) || !v.2.2.2.2.2.2.1) && decide (v.2.2.2.2.2.2.2.2 ≤ big)
def mayWrite (m1 m2 m3 m5 m6 m8 m9 : Int) (v : WriteT) : Prop := ((v.1 : Int) ≤ m1 ∧ v.1 ≤ top) ∧ ((v.2.1 : Int) ≤ m2 ∧ v.2.1 ≤ top) ∧ ((v.2.2.1 : Int) ≤ m3 ∧ v.2.2.1 ≤ top) ∧ trimmed (v.2.2.2.1.map Int.ofNat) big = true ∧ ((v.2.2.2.2.1.length : Int) ≤ m5 ∧ v.2.2.2.2.1.length ≤ top) ∧ ((v.2.2.2.2.2.1.length : Int) ≤ m6 ∧ v.2.2.2.2.2.1.length ≤ top) ∧ True ∧ ((v.2.2.2.2.2.2.2.1.length : Int) ≤ m8 ∧ v.2.2.2.2.2.2.2.1.length ≤ top) ∧ ((v.2.2.2.2.2.2.2.2 : Int) ≤ m9 ∧ v.2.2.2.2.2.2.2.2 ≤ top)
theorem good_write (l : List Nat) (hl : ∀ b ∈ l, b < 256) (m1 m2 m3 m5 m6 m8 m9 : Int) : Good l (readWriteT l m1 m2 m3 m5 m6 m8 m9) writeBytesT (mayWrite m1 m2 m3 m5 m6 m8 m9) :=
  (good_num l hl m1).seq ((good_num l hl m2).seq ((good_num l hl m3).seq ((good_vec l hl).seq ((good_text l hl m5).seq ((good_text l hl m6).seq ((good_flag l hl).seq ((good_text l hl m8).seq (good_num l hl m9))))))))
def wideW (m1 m2 m3 m5 m6 m8 m9 : Int) : Prop := 16 ≤ m1 ∧ (big : Int) ≤ m2 ∧ (big : Int) ≤ m3 ∧ 64 ≤ m5 ∧ 32 ≤ m6 ∧ 128 ≤ m8 ∧ (big : Int) ≤ m9
theorem write_whole (l : List Nat) (hl : ∀ b ∈ l, b < 256) {m1 m2 m3 m5 m6 m8 m9 : Int} (hm : wideW m1 m2 m3 m5 m6 m8 m9) (v : WriteT) : whole l (readWriteT l m1 m2 m3 m5 m6 m8 m9) rightWriteT = some v ↔ rightWriteT v = true ∧ l = writeBytesT v := by
  refine (good_write l hl m1 m2 m3 m5 m6 m8 m9).whole ?_ v
  intro v hv
  obtain ⟨h1, h2, h3, h5, h6, h8, h9⟩ := hm
  unfold rightWriteT at hv
  simp only [Bool.and_eq_true, decide_eq_true_eq] at hv
  unfold mayWrite
  unfold big at *
  unfold top
  refine ⟨⟨?_, ?_⟩, ⟨?_, ?_⟩, ⟨?_, ?_⟩, hv.1.1.1.1.1.1.2, ⟨?_, ?_⟩, ⟨?_, ?_⟩, trivial, ⟨?_, ?_⟩, ?_, ?_⟩ <;> omega

/-- Claims: session, user, epoch, issue, key, context. -/
abbrev ClaimsT := List Nat × List Nat × Nat × Nat × Nat × List Nat
def claimsBytesT (v : ClaimsT) : List Nat := textBytes v.1 ++ (textBytes v.2.1 ++ (num v.2.2.1 ++ (num v.2.2.2.1 ++ (num v.2.2.2.2.1 ++ vecBytesN v.2.2.2.2.2))))
def readClaimsT (l : List Nat) (m1 m2 m3 m4 m5 : Int) : At → ClaimsT × At :=
  seq (fun st => readText l st m1) (seq (fun st => readText l st m2) (seq (fun st => readNum l st m3) (seq (fun st => readNum l st m4) (seq (fun st => readNum l st m5) (fun st => readVec l st)))))
def rightClaimsT (v : ClaimsT) : Bool :=
  decide (1 ≤ v.1.length) && decide (v.1.length ≤ 64) && decide (1 ≤ v.2.1.length) && decide (v.2.1.length ≤ 32) && decide (v.2.2.1 ≤ big) && decide (v.2.2.2.1 ≤ big) && decide (v.2.2.2.2.1 ≤ big) && trimmed (v.2.2.2.2.2.map Int.ofNat) big
def mayClaims (m1 m2 m3 m4 m5 : Int) (v : ClaimsT) : Prop := ((v.1.length : Int) ≤ m1 ∧ v.1.length ≤ top) ∧ ((v.2.1.length : Int) ≤ m2 ∧ v.2.1.length ≤ top) ∧ ((v.2.2.1 : Int) ≤ m3 ∧ v.2.2.1 ≤ top) ∧ ((v.2.2.2.1 : Int) ≤ m4 ∧ v.2.2.2.1 ≤ top) ∧ ((v.2.2.2.2.1 : Int) ≤ m5 ∧ v.2.2.2.2.1 ≤ top) ∧ trimmed (v.2.2.2.2.2.map Int.ofNat) big = true
theorem good_claims (l : List Nat) (hl : ∀ b ∈ l, b < 256) (m1 m2 m3 m4 m5 : Int) : Good l (readClaimsT l m1 m2 m3 m4 m5) claimsBytesT (mayClaims m1 m2 m3 m4 m5) :=
  (good_text l hl m1).seq ((good_text l hl m2).seq ((good_num l hl m3).seq ((good_num l hl m4).seq ((good_num l hl m5).seq (good_vec l hl)))))
def wideC (m1 m2 m3 m4 m5 : Int) : Prop := 64 ≤ m1 ∧ 32 ≤ m2 ∧ (big : Int) ≤ m3 ∧ (big : Int) ≤ m4 ∧ (big : Int) ≤ m5
theorem claims_may {m1 m2 m3 m4 m5 : Int} (hm : wideC m1 m2 m3 m4 m5) (v : ClaimsT) (hv : rightClaimsT v = true) : mayClaims m1 m2 m3 m4 m5 v := by
  obtain ⟨h1, h2, h3, h4, h5⟩ := hm
  unfold rightClaimsT at hv
  simp only [Bool.and_eq_true, decide_eq_true_eq] at hv
  unfold mayClaims
  unfold big at *
  unfold top
  refine ⟨⟨?_, ?_⟩, ⟨?_, ?_⟩, ⟨?_, ?_⟩, ⟨?_, ?_⟩, ⟨?_, ?_⟩, hv.2⟩ <;> omega
theorem claims_whole (l : List Nat) (hl : ∀ b ∈ l, b < 256) {m1 m2 m3 m4 m5 : Int} (hm : wideC m1 m2 m3 m4 m5) (v : ClaimsT) : whole l (readClaimsT l m1 m2 m3 m4 m5) rightClaimsT = some v ↔ rightClaimsT v = true ∧ l = claimsBytesT v :=
  (good_claims l hl m1 m2 m3 m4 m5).whole (fun v hv => claims_may hm v hv) v
theorem claims_free {v w : ClaimsT} {r : List Nat} (hv : rightClaimsT v = true) (hw : rightClaimsT w = true) (hb : ∀ b ∈ claimsBytesT v, b < 256) (hl : claimsBytesT v = claimsBytesT w ++ r) : v = w ∧ r = [] :=
  Good.prefixFree (p := fun l => readClaimsT l 64 32 big big big) (e := claimsBytesT) (P := mayClaims 64 32 big big big) (fun l h => good_claims l h 64 32 big big big) (claims_may ⟨by decide, by decide, by decide, by decide, by decide⟩ v hv) (claims_may ⟨by decide, by decide, by decide, by decide, by decide⟩ w hw) hb hl
end WireMath
namespace WireMath

def mayNum (z : Int) : Bool := decide (0 ≤ z) && decide (z ≤ top)
def numsBytes (zs : List Int) : List Nat := zs.flatMap fun z => num z.toNat
theorem numsBytes_snoc (zs : List Int) (z : Int) : numsBytes (zs ++ [z]) = numsBytes zs ++ num z.toNat := by
  unfold numsBytes
  rw [List.flatMap_append, List.flatMap_cons, List.flatMap_nil, List.append_nil]
theorem numsBytes_len : ∀ zs : List Int, (numsBytes zs).length ≤ 9 * zs.length
  | [] => Nat.le_refl _
  | z :: r => by
    have h1 := num_len z.toNat
    have h2 := numsBytes_len r
    show (num z.toNat ++ numsBytes r).length ≤ _
    rw [List.length_append, List.length_cons]
    omega
theorem numsBytes_lt : ∀ zs : List Int, zs.all mayNum = true → ∀ b ∈ numsBytes zs, b < 256
  | [], _, b, hb => by cases hb
  | z :: r, h, b, hb => by
    simp only [List.all_cons, Bool.and_eq_true] at h
    have hb' : b ∈ num z.toNat ++ numsBytes r := hb
    rcases List.mem_append.1 hb' with hb | hb
    · have h1 := h.1
      unfold mayNum top at h1
      simp only [Bool.and_eq_true, decide_eq_true_eq] at h1
      exact num_lt _ (by omega) b hb
    · exact numsBytes_lt r h.2 b hb
/-- Numbers, and bytes behind them: all of it, or a fault. -/
def putN (p : Put) (zs : List Int) (s : List Nat) : Put :=
  match p.bad with
  | some _ => p
  | none => if zs.all mayNum then if 65536 < p.out.length + (numsBytes zs ++ s).length then ⟨p.out, some (3, p.out.length)⟩ else ⟨p.out ++ (numsBytes zs ++ s), none⟩
    else ⟨p.out, some (1, p.out.length)⟩
theorem putN_bad {p : Put} {q : Nat × Nat} (h : p.bad = some q) (zs : List Int) (s : List Nat) : putN p zs s = p := by unfold putN; rw [h]
theorem putN_arg {p : Put} (h : p.bad = none) {zs : List Int} {i : Nat} {z : Int} (hz : zs[i]? = some z) (hm : mayNum z = false) (s : List Nat) : putN p zs s = ⟨p.out, some (1, p.out.length)⟩ := by
  unfold putN
  rw [h]
  have : zs.all mayNum = false := by
    rw [Bool.eq_false_iff]
    intro ha
    rw [List.all_eq_true] at ha
    rw [ha z (List.mem_of_getElem? hz)] at hm
    cases hm
  simp only
  rw [this, if_neg (by decide)]
theorem putN_long {p : Put} (h : p.bad = none) {zs : List Int} {s : List Nat} (ha : zs.all mayNum = true) (hl : 65536 < p.out.length + (numsBytes zs ++ s).length) : putN p zs s = ⟨p.out, some (3, p.out.length)⟩ := by
  unfold putN
  rw [h]
  simp only
  rw [if_pos ha, if_pos hl]
theorem putN_ok {p : Put} (h : p.bad = none) {zs : List Int} {s : List Nat} (ha : zs.all mayNum = true) (hl : ¬ 65536 < p.out.length + (numsBytes zs ++ s).length) : putN p zs s = ⟨p.out ++ (numsBytes zs ++ s), none⟩ := by
  unfold putN
  rw [h]
  simp only
  rw [if_pos ha, if_neg hl]
end WireMath
namespace WireMath

theorem putN_num {p : Put} {z : Int} (h : p.bad = none) (h0 : 0 ≤ z) (h1 : z ≤ top) (hl : p.out.length + (num z.toNat).length ≤ 65536) : putN p [z] [] = ⟨p.out ++ num z.toNat, none⟩ := by
  have e : numsBytes [z] ++ [] = num z.toNat := by simp [numsBytes]
  have := putN_ok (p := p) h (zs := [z]) (s := []) (by simp [mayNum, h0, h1]) (by rw [e]; omega)
  rw [e] at this
  exact this
theorem mayNum_nat (n : Nat) (h : n ≤ top) : mayNum (n : Int) = true := by unfold mayNum; rw [decide_eq_true (Int.natCast_nonneg n), decide_eq_true (Int.ofNat_le.2 h)]; rfl
theorem putN_text {p : Put} {s : List Nat} (h : p.bad = none) (h1 : s.length ≤ 200000) (hl : p.out.length + (textBytes s).length ≤ 65536) : putN p [(s.length : Int)] s = ⟨p.out ++ textBytes s, none⟩ := by
  have e : numsBytes [(s.length : Int)] ++ s = textBytes s := by simp [numsBytes, textBytes]
  have := putN_ok (p := p) h (zs := [(s.length : Int)]) (s := s) (by rw [List.all_cons, mayNum_nat _ (by unfold top; omega)]; rfl) (by rw [e]; omega)
  rw [e] at this
  exact this
theorem putN_flag {p : Put} {b : Bool} (h : p.bad = none) (hl : p.out.length + (flagBytes b).length ≤ 65536) : putN p [if b then 1 else 0] [] = ⟨p.out ++ flagBytes b, none⟩ := by
  cases b
  · exact putN_num h (by decide) (by decide) hl
  · exact putN_num h (by decide) (by decide) hl
theorem numsBytes_counts : ∀ v : List Nat, numsBytes (v.map Int.ofNat) = countsBytes v
  | [] => rfl
  | x :: r => by
    show num (Int.ofNat x).toNat ++ numsBytes (r.map Int.ofNat) = num x ++ countsBytes r
    rw [numsBytes_counts r]
    rfl
theorem putN_vec {p : Put} {v : List Nat} (h : p.bad = none) (hv : trimmed (v.map Int.ofNat) big = true) (hl : p.out.length + (vecBytesN v).length ≤ 65536) : putN p (((v.map Int.ofNat).length : Int) :: v.map Int.ofNat) [] = ⟨p.out ++ vecBytesN v, none⟩ := by
  have e : numsBytes (((v.map Int.ofNat).length : Int) :: v.map Int.ofNat) ++ [] = vecBytesN v := by
    rw [List.append_nil]
    show num (((v.map Int.ofNat).length : Int)).toNat ++ numsBytes (v.map Int.ofNat) = _
    rw [numsBytes_counts, List.length_map]
    rfl
  obtain ⟨h1, h2⟩ := trimmed_counts hv
  have hm : ((((v.map Int.ofNat).length : Int) :: v.map Int.ofNat)).all mayNum = true := by
    rw [List.all_eq_true]
    intro z hz
    rcases List.mem_cons.1 hz with rfl | hz
    · rw [List.length_map]; exact mayNum_nat _ (by unfold top; omega)
    · obtain ⟨y, hy, rfl⟩ := List.mem_map.1 hz
      have := h2 y hy
      unfold big at this
      exact mayNum_nat y (by unfold top; omega)
  have := putN_ok (p := p) h (zs := ((v.map Int.ofNat).length : Int) :: v.map Int.ofNat) (s := []) hm (by rw [e]; omega)
  rw [e] at this
  exact this
theorem countsBytes_len (v : List Nat) : (countsBytes v).length ≤ 9 * v.length := by
  rw [← numsBytes_counts]
  have := numsBytes_len (v.map Int.ofNat)
  rwa [List.length_map] at this
theorem vecBytesN_len {v : List Nat} (h : v.length ≤ 16) : (vecBytesN v).length ≤ 200 := by
  have h1 := countsBytes_len v
  have h2 := num_len v.length
  unfold vecBytesN
  rw [List.length_append]
  omega
theorem textBytes_len {s : List Nat} {k : Nat} (h : s.length ≤ k) : (textBytes s).length ≤ k + 9 := by
  have h2 := num_len s.length
  unfold textBytes
  rw [List.length_append]
  omega
theorem flagBytes_len (b : Bool) : (flagBytes b).length ≤ 9 := num_len _
theorem num_bytes {n : Nat} (h : n ≤ big) : ∀ b ∈ num n, b < 256 := num_lt n (by unfold big at h; omega)
theorem mem_app {a b : List Nat} (ha : ∀ x ∈ a, x < 256) (hb : ∀ x ∈ b, x < 256) : ∀ x ∈ a ++ b, x < 256 := fun x hx => by
  rcases List.mem_append.1 hx with h | h
  · exact ha x h
  · exact hb x h
theorem text_bytes {s : List Nat} (h : s.length ≤ 1000) (hs : ∀ x ∈ s, x < 256) : ∀ x ∈ textBytes s, x < 256 := mem_app (num_lt _ (by omega)) hs
theorem vec_bytes {v : List Nat} (h : trimmed (v.map Int.ofNat) big = true) : ∀ x ∈ vecBytesN v, x < 256 := by
  obtain ⟨h1, h2⟩ := trimmed_counts h
  refine mem_app (num_lt _ (by omega)) fun x hx => ?_
  obtain ⟨y, hy, hx⟩ := List.mem_flatMap.1 hx
  exact num_bytes (h2 y hy) x hx
/-- A right write's bytes are bytes, and few. -/
theorem write_small {v : WriteT} (h : rightWriteT v = true) : (writeBytesT v).length ≤ 1000 := by
  unfold rightWriteT at h
  simp only [Bool.and_eq_true, decide_eq_true_eq] at h
  obtain ⟨⟨⟨⟨⟨⟨⟨⟨⟨⟨⟨⟨_, _⟩, _⟩, _⟩, _⟩, _⟩, h7⟩, _⟩, h9⟩, h10⟩, h11⟩, _⟩, _⟩ := h
  have k1 := num_len v.1
  have k2 := num_len v.2.1
  have k3 := num_len v.2.2.1
  have k4 := vecBytesN_len (trimmed_counts h7).1
  have k5 := textBytes_len h9
  have k6 := textBytes_len h10
  have k7 := flagBytes_len v.2.2.2.2.2.2.1
  have k8 := textBytes_len h11
  have k9 := num_len v.2.2.2.2.2.2.2.2
  unfold writeBytesT
  simp only [List.length_append]
  omega
theorem claims_small {v : ClaimsT} (h : rightClaimsT v = true) : (claimsBytesT v).length ≤ 1000 := by
  unfold rightClaimsT at h
  simp only [Bool.and_eq_true, decide_eq_true_eq] at h
  obtain ⟨⟨⟨⟨⟨⟨⟨_, h2⟩, _⟩, h4⟩, _⟩, _⟩, _⟩, h8⟩ := h
  have k1 := textBytes_len h2
  have k2 := textBytes_len h4
  have k3 := num_len v.2.2.1
  have k4 := num_len v.2.2.2.1
  have k5 := num_len v.2.2.2.2.1
  have k6 := vecBytesN_len (trimmed_counts h8).1
  unfold claimsBytesT
  simp only [List.length_append]
  omega
end WireMath
