/-
  How the program's device of chapter 8 lies in memory, and the contracts of its small functions. No conditions but those typed.
-/
import Derived.Test.YtfdldjhndfohhaaDoorBlockLaws
import Derived.Test.YtfdldjhndfohhaaDoorLies
import Derived.Test.YtfdldjhndfohhaaDoorOwnBytes
import Derived.Test.YtfdldjhndfohhaaDoorFrameRow
import Derived.Lib.AppendStr
namespace Go.Proofs.YtfdldjhndfohhaaDoor
open Go.RowKit BlockMath TextNat

/-- The device's cells, and its bytes' own row. -/
structure Raw (w : World) (b : Nat) (p : Option Addr) (n cap : Nat) (l : List Nat) (sf rm : Int) (dn fu : Bool) (lf : Int) : Prop where
  lies : Lies w b [.slice p n cap, .int .i64 sf, .int .i64 rm, .bool dn, .bool fu, .int .i64 lf] 48
  own : w.ownsRow 0 5 1 (.slice p n cap) n (byteVals l)
  far : p.map (·.block) ≠ some b
/-- In which blocks it lies. -/
def Mine (p : Option Addr) (b k : Nat) : Prop := k = b ∨ p.map (·.block) = some k
/-- What the fuse's two cells say. -/
def Fz (d : Dk) (fu : Bool) (lf : Int) : Prop := I64 lf ∧ (d.off = false → fu = decide (0 ≤ d.fuse) ∧ (0 ≤ d.fuse → lf = d.fuse))
def DevAt (w : World) (b : Nat) (S : Nat → Prop) (d : Dk) : Prop := ∃ p n cap fu lf, Raw w b p n cap (nats (all d)) d.done.size d.room d.off fu lf ∧ Fz d fu lf ∧ ∀ k, S k ↔ Mine p b k
section
variable {w w' : World} {b n cap : Nat} {p : Option Addr} {l : List Nat} {sf rm lf : Int} {dn fu : Bool}
theorem Raw.len (h : Raw w b p n cap l sf rm dn fu lf) : l.length = n := by
  have := h.own.1
  rw [byteVals_len] at this
  omega
theorem own_cases {B : Nat} {e : TypeId} {xs : List Value} (h : w.ownsRow B e 1 (.slice p n cap) n xs) : (p = none ∧ n = 0 ∧ cap = 0) ∨ ∃ g cur, p = some ⟨g, 0, none⟩ ∧ w.heap[g]? = some (.cells cur e (0, 0)) ∧ n ≤ cap := by
  rcases h.2 with ⟨h1, h2⟩ | ⟨g, cap', cur, h1, h2, h3, h4, _⟩
  · simp at h1
    exact .inl ⟨h1.1, h2, h1.2.2⟩
  · simp at h1
    exact .inr ⟨g, cur, h1.1, h3, by omega⟩
theorem own_lt {B : Nat} {e : TypeId} {xs : List Value} (h : w.ownsRow B e 1 (.slice p n cap) n xs) : ∀ k, p.map (·.block) = some k → k < w.heap.size := by
  intro k hk
  rcases own_cases h with ⟨rfl, _⟩ | ⟨g, cur, rfl, hg, _⟩
  · cases hk
  · simp at hk
    subst hk
    exact (Array.getElem?_eq_some_iff.1 hg).1
theorem own_keep {B : Nat} {e : TypeId} {xs : List Value} (h : w.ownsRow B e 1 (.slice p n cap) n xs) (hk : ∀ k, p.map (·.block) = some k → w'.heap[k]? = w.heap[k]?) : w'.ownsRow B e 1 (.slice p n cap) n xs := by
  refine ⟨h.1, ?_⟩
  rcases h.2 with h2 | ⟨g, cap', cur, h1, h2, h3, h4⟩
  · exact .inl h2
  · refine .inr ⟨g, cap', cur, h1, h2, ?_, h4⟩
    simp at h1
    rw [hk g (by rw [h1.1]; rfl)]
    exact h3
theorem Raw.keep (h : Raw w b p n cap l sf rm dn fu lf) (hk : ∀ k, Mine p b k → w'.heap[k]? = w.heap[k]?) : Raw w' b p n cap l sf rm dn fu lf :=
  ⟨(hk b (.inl rfl)).trans h.lies, own_keep h.own fun k hk' => hk k (.inr hk'), h.far⟩
theorem Raw.lt (h : Raw w b p n cap l sf rm dn fu lf) : ∀ k, Mine p b k → k < w.heap.size := by
  intro k hk
  rcases hk with rfl | hk
  · exact h.lies.lt
  · exact own_lt h.own k hk
theorem Raw.below (h : Raw w b p n cap l sf rm dn fu lf) (hb : Below w.heap.size w w') : Raw w' b p n cap l sf rm dn fu lf := h.keep fun k hk => hb.block k (h.lt k hk)
/-- A cell of the struct written. -/
theorem Raw.put (h : Raw w b p n cap l sf rm dn fu lf) {i : Nat} {x : Value} {sf' rm' lf' : Int} {dn' fu' : Bool}
    (e : [Value.slice p n cap, .int .i64 sf, .int .i64 rm, .bool dn, .bool fu, .int .i64 lf].set i x = [.slice p n cap, .int .i64 sf', .int .i64 rm', .bool dn', .bool fu', .int .i64 lf']) :
    Raw (w.setCell ⟨b, i, none⟩ x) b p n cap l sf' rm' dn' fu' lf' := by
  refine ⟨?_, own_keep h.own fun k hk => Below.heap_setCell _ _ _ _ fun e => h.far (by rw [hk, e]), h.far⟩
  have := Lies.set h.lies i x
  rw [e] at this
  exact this
theorem Apart.but {S : Nat → Prop} (hS : S b) (h : But b w w') : Apart S w w' := ⟨h.os, h.tape, h.output, h.size, fun k hk hn => h.block k hk fun e => hn (e ▸ hS)⟩
theorem Apart.trans {S : Nat → Prop} {a c : World} (h : Apart S a w) (k : Apart S w c) : Apart S a c :=
  ⟨k.os.trans h.os, k.tape.trans h.tape, k.output.trans h.output, Nat.le_trans h.size k.size, fun i hi hn => (k.block i (by have := h.size; omega) hn).trans (h.block i hi hn)⟩
theorem Apart.grown {S : Nat → Prop} {row : Option Nat} (h : w.grownBy w' row) (hS : ∀ k, row = some k → S k) : Apart S w w' :=
  ⟨h.os, h.tape, h.output, h.size, fun k hk hn => h.block k hk fun e => hn (hS k e.symm)⟩
end
def dev : Dev where
  at_ := DevAt
  stays := by
    rintro w w' b S d ⟨p, n, cap, fu, lf, h, hf, hS⟩ hs hk
    exact ⟨p, n, cap, fu, lf, h.keep fun k h2 => hk k ((hS k).2 h2), hf, hS⟩
  lt := by
    rintro w b S d ⟨p, n, cap, fu, lf, h, hf, hS⟩ k hk
    exact h.lt k ((hS k).1 hk)
/-- What a call leaves, from the cells. -/
theorem does_of {w w' : World} {b n' cap' : Nat} {p p' : Option Addr} {S : Nat → Prop} {d' : Dk} {l' : List Nat} {sf rm : Int} {dn fu : Bool} {lf : Int} (hS : ∀ k, S k ↔ Mine p b k)
    (h : Raw w' b p' n' cap' l' sf rm dn fu lf) (hl : l' = nats (all d')) (hs : sf = d'.done.size) (hr : rm = d'.room) (ho : dn = d'.off) (hf : Fz d' fu lf)
    (hp : ∀ k, p'.map (·.block) = some k → p.map (·.block) = some k ∨ w.heap.size ≤ k) (ha : Apart S w w') : Does dev w b S d' w' := by
  subst hl hs hr ho
  refine ⟨⟨Mine p' b, ⟨p', n', cap', fu, lf, h, hf, fun k => Iff.rfl⟩, fun k hk => ?_⟩, ha⟩
  rcases hk with rfl | hk
  · exact .inl ((hS k).2 (.inl rfl))
  · rcases hp k hk with h | h
    · exact .inl ((hS k).2 (.inr h))
    · exact .inr h
theorem err_new (w : World) (n c : Int) : ErrNew w.heap.size (w.alloc (.cells #[.string name, .int .i64 n, .iface 33 (.int .i64 c)] 84)) n c (.iface 80 (.pointer (some ⟨w.heap.size, 0, none⟩))) := by
  intro w2 hs hk
  have h2 : Lies w2 w.heap.size [.string name, .int .i64 n, .iface 33 (.int .i64 c)] 84 := (hk _ (Nat.le_refl _) (by simp)).trans (heap_alloc_new w _)
  exact ⟨[], ⟨w.heap.size, _, rfl, h2.lt, h2.cell (i := 0) rfl, h2.cell (i := 1) rfl, h2.cell (i := 2) rfl, rfl⟩⟩
section
variable {w : World} {b n cap : Nat} {p : Option Addr} {l : List Nat} {sf rm lf : Int} {dn fu : Bool}
set_option maxRecDepth 100000 in
theorem downR (h : Raw w b p n cap l sf rm dn fu lf) : Calls Tryd.prog 31 #[ptr b] w fun e w' => e = .returned (.bool dn) ∧ w' = w := by
  have c3 := Lies.cell (i := 3) h.lies rfl
  clear h
  go_enter Tryd.func31, Tryd.ntmps31
  go_wp2
  go_ret
  exact ⟨rfl, rfl⟩
set_option maxRecDepth 100000 in
theorem lenR (h : Raw w b p n cap l sf rm dn fu lf) : Calls Tryd.prog 15 #[ptr b] w fun e w' => e = .returned (.int .i64 (if dn then 0 else (n : Int))) ∧ w' = w := by
  have HD := Lib.hid (downR h)
  have c0 := Lies.cell (i := 0) h.lies rfl
  clear h
  cases dn
  all_goals
    go_enter Tryd.func15, Tryd.ntmps15
    go_wp2_with (go_at_call 31; refine HD.out.mono ?_; rintro e w2 ⟨rfl, rfl⟩)
    go_ret
    exact ⟨rfl, rfl⟩
set_option maxRecDepth 100000 in
theorem safeR (h : Raw w b p n cap l sf rm dn fu lf) : Calls Tryd.prog 32 #[ptr b] w fun e w' => e = .returned (.int .i64 (if dn then 0 else sf)) ∧ w' = w := by
  have HD := Lib.hid (downR h)
  have c1 := Lies.cell (i := 1) h.lies rfl
  clear h
  cases dn
  all_goals
    go_enter Tryd.func32, Tryd.ntmps32
    go_wp2_with (go_at_call 31; refine HD.out.mono ?_; rintro e w2 ⟨rfl, rfl⟩)
    go_ret
    exact ⟨rfl, rfl⟩
set_option maxRecDepth 100000 in
theorem refR (h : Raw w b p n cap l sf rm dn fu lf) (c : Int) : Calls Tryd.prog 33 #[ptr b, .int .i64 c] w fun e w' =>
    (∃ x, e = .returned x ∧ ErrNew w.heap.size w' (if dn then 0 else (n : Int)) c x) ∧ Below w.heap.size w w' := by
  have HL := Lib.hid (lenR h)
  obtain ⟨k, hk⟩ : ∃ k : Int, k = if dn then 0 else (n : Int) := ⟨_, rfl⟩
  rw [← hk] at HL ⊢
  clear hk h
  have HE := Lib.hid (at_some ⟨#[98, 108, 111, 99, 107]⟩ k 33 (.int .i64 c) w)
  have HN := Lib.hid (err_new w k c)
  have HB := Lib.hid (show Below w.heap.size w (w.alloc (.cells #[.string ⟨#[98, 108, 111, 99, 107]⟩, .int .i64 k, .iface 33 (.int .i64 c)] 84)) from (Below.refl _ _).alloc (Nat.le_refl _) _)
  go_enter Tryd.func33, Tryd.ntmps33
  go_wp2_with (first
    | (go_at_call 15; refine HL.out.mono ?_; rintro e w2 ⟨rfl, rfl⟩)
    | (go_at_call 39; refine HE.out.mono ?_; rintro e w2 ⟨rfl, rfl⟩))
  go_ret
  exact ⟨⟨_, rfl, HN.out⟩, HB.out⟩
set_option maxRecDepth 100000 in
/-- What a fuse leaves, where the power is on. -/
theorem blowsR {d : Dk} (h : Raw w b p n cap l sf rm false fu lf) (ho : d.off = false) (hf : Fz d fu lf) (ok : Ok d) : Calls Tryd.prog 34 #[ptr b] w fun e w' =>
    e = .returned (.bool (!doesB d)) ∧ (∃ fu' lf', Raw w' b p n cap l sf rm (doesD d).off fu' lf' ∧ Fz (doesD d) fu' lf') ∧ But b w w' := by
  have H := Lib.hid h
  have HF := Lib.hid hf
  obtain ⟨hf1, hf2⟩ := hf.2 ho
  have ok0 := ok.fuse0
  have ok1 := ok.fuse1
  obtain ⟨x, hx⟩ : ∃ x, x = d.fuse := ⟨_, rfl⟩
  rw [← hx] at hf1 hf2 ok0 ok1
  by_cases h0 : x < 0
  · have HB := Lib.hid (show doesB d = true by unfold doesB; rw [ho, ← hx, decide_eq_false (by omega)]; rfl)
    have HD := Lib.hid (show doesD d = d by unfold doesD; rw [if_neg (by rw [ho]; simp), if_neg (by omega), if_neg (by omega)])
    obtain rfl : fu = false := by rw [hf1, decide_eq_false (by omega)]
    have c4 := Lies.cell (i := 4) h.lies rfl
    rw [HB.out, HD.out]
    clear h hf hf1 hf2 hx h0 ok0 ok1 ok
    go_enter Tryd.func34, Tryd.ntmps34
    go_wp2
    go_ret
    exact ⟨rfl, ⟨_, _, by rw [ho]; exact H.out, HF.out⟩, But.refl _ _⟩
  · obtain rfl : fu = true := by rw [hf1, decide_eq_true (by omega)]
    obtain rfl : lf = x := hf2 (by omega)
    have c4 := Lies.cell (i := 4) h.lies rfl
    have c3 := Lies.cell (i := 3) h.lies rfl
    have c5 := Lies.cell (i := 5) h.lies rfl
    have f3 := Lies.free h.lies 3
    have f5 := Lies.free h.lies 5
    have n1 : IntKind.i64.wrap (lf - 1) = lf - 1 := by rw [IntKind.wrap_i64]; omega
    by_cases h1 : lf = 0
    · have HB := Lib.hid (show doesB d = false by unfold doesB; rw [ho, ← hx, h1]; rfl)
      have HD := Lib.hid (show doesD d = { d with off := true } by unfold doesD; rw [if_neg (by rw [ho]; simp), if_pos (by omega)])
      have HR := Lib.hid (((H.out.put (i := 3) (x := .bool true) (dn' := true) rfl).put (i := 5) (x := .int .i64 (lf - 1)) rfl))
      have HG := Lib.hid (show Fz { d with off := true } true (lf - 1) from ⟨by unfold I64; omega, fun h => by cases h⟩)
      rw [HB.out, HD.out]
      subst h1
      clear h hf hf1 hf2 hx h0 ok0 ok1 ok
      go_enter Tryd.func34, Tryd.ntmps34
      go_wp2
      go_ret
      exact ⟨rfl, ⟨_, _, HR.out, HG.out⟩, (But.set _ _ _ _).trans (But.set _ _ _ _)⟩
    · have t1 : (lf == 0) = false := by rw [beq_eq_false_iff_ne]; exact h1
      have HB := Lib.hid (show doesB d = true by unfold doesB; rw [ho, ← hx, decide_eq_false h1]; rfl)
      have HD := Lib.hid (show doesD d = { d with fuse := lf - 1 } by unfold doesD; rw [if_neg (by rw [ho]; simp), if_neg (by omega), if_pos (by omega), hx])
      have HR := Lib.hid (((H.out.put (i := 3) (x := .bool false) (dn' := false) rfl).put (i := 5) (x := .int .i64 (lf - 1)) rfl))
      have HG := Lib.hid (show Fz { d with fuse := lf - 1 } true (lf - 1) from ⟨by unfold I64; omega, fun _ => ⟨(decide_eq_true (show 0 ≤ lf - 1 by omega)).symm, fun _ => rfl⟩⟩)
      rw [HB.out, HD.out]
      clear h hf hf1 hf2 hx h0 h1 ok0 ok1 ok
      go_enter Tryd.func34, Tryd.ntmps34
      go_wp2
      go_ret
      exact ⟨rfl, ⟨_, _, by show Raw _ _ _ _ _ _ _ _ d.off _ _; rw [ho]; exact HR.out, HG.out⟩, (But.set _ _ _ _).trans (But.set _ _ _ _)⟩
end
end Go.Proofs.YtfdldjhndfohhaaDoor
