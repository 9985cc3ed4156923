/-
  The contracts of the program's functions of chapter 7, as sentences that its laws start from. No conditions but those typed.
-/
import Derived.Test.YtlhilpmlffbnkaaStampRef
import Derived.Test.YtlhilpmlffbnkaaIsCode
namespace Go.Proofs.Ytlhilpmlffbnkaa
open Go.RowKit StampMath

/-- A clock in memory: a block of its own that holds its region and its time. -/
def Clk (w : World) (b : Nat) (r t : Int) : Prop := Lies w b [.int .i64 r, .int .i64 t] 49
theorem Clk.below {w w' : World} {b : Nat} {r t : Int} (h : Clk w b r t) (hb : Below w.heap.size w w') : Clk w' b r t := Lies.below h hb
theorem Clk.lt {w : World} {b : Nat} {r t : Int} (h : Clk w b r t) : b < w.heap.size := Lies.lt h
/-- An error of this code: wraps around it. -/
def ErrIs (w : World) (c : Int) (x : Value) : Prop := ∃ l, Chain w.heap.size w l (.iface 39 (.int .i64 c)) x
theorem ErrIs.below {w w' : World} {c : Int} {x : Value} (h : ErrIs w c x) (hb : Below w.heap.size w w') : ErrIs w' c x := by
  obtain ⟨l, h⟩ := h
  exact ⟨l, h.mono hb hb.size⟩
theorem ErrIs.iface {w : World} {c : Int} {x : Value} (h : ErrIs w c x) : ∃ T y, x = .iface T y := by
  obtain ⟨l, h⟩ := h
  exact h.some
/-- errors.Is of such an error. -/
theorem is_err {w : World} {c : Int} {x : Value} (h : ErrIs w c x) (other : Int) : Calls Try.prog 14 #[x, .iface 39 (.int .i64 other)] w fun e w' => e = .returned (.bool (c == other)) ∧ w' = w := by
  obtain ⟨l, h⟩ := h
  exact Is_chain _ l c other x w h
def LessOk : Prop := ∀ (a1 a2 b1 b2 : Int) (w : World), Calls Try.prog 8 #[.agg #[.int .i64 a1, .int .i64 a2], .agg #[.int .i64 b1, .int .i64 b2]] w fun e w' => e = .returned (.bool (less (a1, a2) (b1, b2))) ∧ Below w.heap.size w w'
def GreatestOk : Prop := ∀ (p : Option Addr) (c : Nat) (l : List St) (w : World), Stamps w p l → l.length ≤ 1000 → l.length ≤ c →
  Calls Try.prog 10 #[.slice p l.length c] w fun e w' => e = .returned (.tuple #[.agg #[.int .i64 (greatV l).1, .int .i64 (greatV l).2], .bool (greatB l)]) ∧ Below w.heap.size w w'
abbrev I64 (n : Int) : Prop := -9223372036854775808 ≤ n ∧ n ≤ 9223372036854775807
/-- What New answers. -/
def NewIs (w w' : World) (r t : Int) (e : Ending) : Prop :=
  if rightB r t = true then ∃ b, e = .returned (.tuple #[.pointer (some ⟨b, 0, none⟩), .nilIface]) ∧ w.heap.size ≤ b ∧ Clk w' b r t
  else ∃ x, e = .returned (.tuple #[.pointer none, x]) ∧ ErrIs w' 1 x
def NewOk : Prop := ∀ (r t : Int) (w : World), I64 r → I64 t → Calls Try.prog 12 #[.int .i64 r, .int .i64 t] w fun e w' => NewIs w w' r t e ∧ Below w.heap.size w w'
/-- What Next answers. -/
def NextIs (w' : World) (b : Nat) (r t : Int) (e : Ending) : Prop :=
  if t < 1099511627776 then e = .returned (.tuple #[.agg #[.int .i64 (t + 1), .int .i64 r], .nilIface]) ∧ Clk w' b r (t + 1)
  else (∃ x, e = .returned (.tuple #[.agg #[.int .i64 0, .int .i64 0], x]) ∧ ErrIs w' 3 x) ∧ Clk w' b r t
def NextOk : Prop := ∀ (b : Nat) (r t : Int) (w : World), Clk w b r t → 0 ≤ t → t ≤ 1099511627776 → Calls Try.prog 15 #[.pointer (some ⟨b, 0, none⟩)] w fun e w' => NextIs w' b r t e ∧ But b w w'
/-- What See answers. -/
def SeeIs (w' : World) (b : Nat) (r t s : Int) (e : Ending) : Prop :=
  if 0 ≤ s ∧ s ≤ 1099511627776 then e = .returned .nilIface ∧ Clk w' b r (max t s)
  else (∃ x, e = .returned x ∧ ErrIs w' 1 x) ∧ Clk w' b r t
def SeeOk : Prop := ∀ (b : Nat) (r t s : Int) (w : World), Clk w b r t → 0 ≤ t → t ≤ 1099511627776 → I64 s → Calls Try.prog 16 #[.pointer (some ⟨b, 0, none⟩), .int .i64 s] w fun e w' => SeeIs w' b r t s e ∧ But b w w'
def TimeOk : Prop := ∀ (b : Nat) (r t : Int) (w : World), Clk w b r t → Calls Try.prog 17 #[.pointer (some ⟨b, 0, none⟩)] w fun e w' => e = .returned (.int .i64 t) ∧ Below w.heap.size w w'
def NoneOk : Prop :=
  (∀ w : World, Calls Try.prog 15 #[.pointer none] w fun e w' => (∃ x, e = .returned (.tuple #[.agg #[.int .i64 0, .int .i64 0], x]) ∧ ErrIs w' 1 x) ∧ Below w.heap.size w w') ∧
  (∀ (s : Int) (w : World), I64 s → Calls Try.prog 16 #[.pointer none, .int .i64 s] w fun e w' => (∃ x, e = .returned x ∧ ErrIs w' 1 x) ∧ Below w.heap.size w w') ∧
  (∀ w : World, Calls Try.prog 17 #[.pointer none] w fun e w' => e = .returned (.int .i64 0) ∧ Below w.heap.size w w')

theorem new_at {w w' : World} {r t : Int} {e : Ending} (h : NewIs w w' r t e) (hr : rightB r t = true) : ∃ b, e = .returned (.tuple #[.pointer (some ⟨b, 0, none⟩), .nilIface]) ∧ w.heap.size ≤ b ∧ Clk w' b r t := by
  unfold NewIs at h
  rwa [if_pos hr] at h
theorem next_at {w' : World} {b : Nat} {r t : Int} {e : Ending} (h : NextIs w' b r t e) (ht : t < 1099511627776) : e = .returned (.tuple #[.agg #[.int .i64 (t + 1), .int .i64 r], .nilIface]) ∧ Clk w' b r (t + 1) := by
  unfold NextIs at h
  rwa [if_pos ht] at h
theorem see_at {w' : World} {b : Nat} {r t s : Int} {e : Ending} (h : SeeIs w' b r t s e) (hs : 0 ≤ s ∧ s ≤ 1099511627776) : e = .returned .nilIface ∧ Clk w' b r (max t s) := by
  unfold SeeIs at h
  rwa [if_pos hs] at h
theorem below_but {w w1 w2 : World} {b : Nat} (h : Below w.heap.size w w1) (hb : w.heap.size ≤ b) (hl : b < w1.heap.size) (k : But b w1 w2) : Below w.heap.size w w2 := h.trans ((k.below (by omega)).mono hb)
set_option maxRecDepth 100000 in
set_option maxHeartbeats 4000000 in
/-- The document's example. -/
theorem awake_true (hN : NewOk) (hX : NextOk) (hS : SeeOk) (w : World) : Calls Try.prog 7 #[] w fun e w' => e = .returned (.bool true) ∧ Below w.heap.size w w' := by
  replace hN := Lib.hid (hN 2 5 w (by decide) (by decide))
  replace hX := Lib.hid hX
  replace hS := Lib.hid hS
  go_enter Try.func7, Try.ntmps7
  go_wp2_with fail
  refine hN.out.mono ?_
  rintro e w1 ⟨h1, hb1⟩
  obtain ⟨b, rfl, hb, hc1⟩ := new_at h1 (by decide)
  have HB1 := Lib.hid hb1
  have HC1 := Lib.hid hc1
  clear h1 hb1 hc1 hN
  go_wp2_with fail
  refine (hX.out b 2 5 w1 HC1.out (by decide) (by decide)).mono ?_
  rintro e w2 ⟨h2, hb2⟩
  obtain ⟨rfl, hc2⟩ := next_at h2 (by decide)
  have hB2 := below_but HB1.out hb HC1.out.lt hb2
  have HB2 := Lib.hid (hB2.alloc hB2.size (.cells #[.int .i64 6, .int .i64 2] 25))
  have HC2 := Lib.hid (hc2.below ((Below.refl _ w2).alloc (Nat.le_refl _) (.cells #[.int .i64 6, .int .i64 2] 25)))
  have HL2 := Lib.hid (Lies.new w2 [.int .i64 6, .int .i64 2] 25)
  have HN2 := Lib.hid (show w2.heap.size ≠ b from fun h => by have := hc2.lt; omega)
  clear h2 hb2 hc2 hB2
  go_wp2_with fail
  refine (hS.out b 2 6 9 _ HC2.out (by decide) (by decide) (by decide)).mono ?_
  rintro e w3 ⟨h3, hb3⟩
  obtain ⟨rfl, hc3⟩ := see_at h3 (by decide)
  have HB3 := Lib.hid (below_but HB2.out hb HC2.out.lt hb3)
  have HC3 := Lib.hid (show Clk w3 b 2 9 from hc3)
  have HL3 := Lib.hid (HL2.out.but hb3 HN2.out)
  clear h3 hb3 hc3
  go_wp2_with fail
  refine (hX.out b 2 9 w3 HC3.out (by decide) (by decide)).mono ?_
  rintro e w4 ⟨h4, hb4⟩
  obtain ⟨rfl, hc4⟩ := next_at h4 (by decide)
  have hB4 := below_but HB3.out hb HC3.out.lt hb4
  have hA4 : Below w4.heap.size w4 (w4.alloc (.cells #[.int .i64 10, .int .i64 2] 25)) := (Below.refl _ w4).alloc (Nat.le_refl _) _
  have HB4 := Lib.hid (hB4.alloc hB4.size (.cells #[.int .i64 10, .int .i64 2] 25))
  have HL4 := Lib.hid ((HL3.out.but hb4 HN2.out).below hA4)
  have HM4 := Lib.hid (Lies.new w4 [.int .i64 10, .int .i64 2] 25)
  have c0 := HL4.out.cell (i := 0) rfl
  have c1 := HL4.out.cell (i := 1) rfl
  have d0 := HM4.out.cell (i := 0) rfl
  have d1 := HM4.out.cell (i := 1) rfl
  clear h4 hb4 hc4 hB4 hA4
  go_wp2
  go_ret
  exact ⟨rfl, HB4.out⟩
end Go.Proofs.Ytlhilpmlffbnkaa
