/-
  Texts of one claim, merged.
  StampRef: Stamps in memory; the contracts of the document's own Less, Greatest, Right of chapter 7. The conditions: the stamps' cells.
  RegRef: The document's own Above and Visible of chapter 15. No conditions.
  StoreRef1: The document's own Below and Cell of chapter 16. The conditions: the rows lie in memory.
-/
import Derived.Test.YtgbhfhnbmgkaoaaGreatDoorPart02
import Derived.Test.YtgbhfhnbmgkaoaaGreatDoorPart04
import Derived.Test.YtgbhfhnbmgkaoaaGreatDoorPart06
import Derived.WalkKit
import Derived.Handy
import Derived.Outline
import Derived.Lib.Hide
import Derived.Deep.LoopGhost
import Derived.Deep.RegionWith
import Derived.Deep.RegionLaw
import Derived.StillTailTactics
import Derived.BigQuiet
import Derived.Test.YtgbhfhnbmgkaoaaGreatDoorPart05
namespace Go.Proofs.YtgbhfhnbmgkaoaaGreatDoor
open Go.RowKit StampMath

/-- The stamps 'l' stand from the address 'pp' on, two cells each. -/
def Stamps (w : World) (pp : Option Addr) (l : List St) : Prop := ∀ (i : Nat) (a : St), l[i]? = some a → ∃ b off, pp = some ⟨b, off, none⟩ ∧ w.cell? ⟨b, off + i * 2, none⟩ = some (.int .i64 a.1) ∧ w.cell? ⟨b, off + i * 2 + 1, none⟩ = some (.int .i64 a.2)
theorem Stamps.grown {w w' : World} {pp : Option Addr} {l : List St} (h : Stamps w pp l) (hb : Below w.heap.size w w') : Stamps w' pp l := fun i a ha => by
  obtain ⟨b, off, hp, h1, h2⟩ := h i a ha
  exact ⟨b, off, hp, (hb.cell (p := ⟨b, off + i * 2, none⟩) (World.block_lt_of_cell? w _ h1)).trans h1, (hb.cell (p := ⟨b, off + i * 2 + 1, none⟩) (World.block_lt_of_cell? w _ h2)).trans h2⟩
theorem below_drewN {B : Nat} {a w : World} (n : Nat) (h : Below B a w) : Below B a (w.drewN n) := ⟨h.os, h.tape, h.output, h.size, h.block⟩
theorem below_cell {B g : Nat} {a w : World} (h : Below B a w) (hg : B ≤ g) (j : Nat) (v : Value) : Below B a (w.setCell ⟨g, j, none⟩ v) :=
  ⟨h.os, h.tape, h.output, by have := h.size; simpa [World.setCell] using this, fun k hk => (Below.heap_setCell _ _ _ _ (by show k ≠ g; omega)).trans (h.block k hk)⟩
abbrev stv (a : St) : Value := .agg #[.int .i64 a.1, .int .i64 a.2]

set_option maxRecDepth 100000 in
theorem refLess (a1 a2 b1 b2 : Int) (w : World) : Calls Tryz.prog 69 #[.agg #[.int .i64 a1, .int .i64 a2], .agg #[.int .i64 b1, .int .i64 b2]] w fun e w' => e = .returned (.bool (less (a1, a2) (b1, b2))) ∧ Below w.heap.size w w' := by
  have HB := Lib.hid (((Below.refl w.heap.size w).alloc (Nat.le_refl _) (.cells #[.int .i64 a1, .int .i64 a2] 24)).alloc (by simp) (.cells #[.int .i64 b1, .int .i64 b2] 24))
  by_cases h : a1 = b1
  · have t1 : (a1 == b1) = true := by rw [beq_iff_eq]; exact h
    have t2 : (a1 != b1) = false := by rw [bne, t1]; rfl
    have HE := Lib.hid (show less (a1, a2) (b1, b2) = decide (a2 < b2) by unfold less; rw [if_pos h])
    clear h
    go_enter Tryz.func69, Tryz.ntmps69
    go_wp2
    go_ret
    exact ⟨by rw [HE.out]; rfl, HB.out⟩
  · have t1 : (a1 == b1) = false := by rw [beq_eq_false_iff_ne]; exact h
    have t2 : (a1 != b1) = true := by rw [bne, t1]; rfl
    have HE := Lib.hid (show less (a1, a2) (b1, b2) = decide (a1 < b1) by unfold less; rw [if_neg h])
    clear h
    go_enter Tryz.func69, Tryz.ntmps69
    go_wp2
    go_ret
    exact ⟨by rw [HE.out]; rfl, HB.out⟩
/-- May a clock be? -/
def rightB (r t : Int) : Bool := decide (0 < r) && decide (r < 17) && decide (0 ≤ t) && decide (t ≤ 1099511627776)
end Go.Proofs.YtgbhfhnbmgkaoaaGreatDoor
namespace Go.Proofs.YtgbhfhnbmgkaoaaGreatDoor
open Go.RowKit TextNat RegMath StampMath

theorem bytes_lex : ∀ x y : List UInt8, Go.Op.bytesLess x y = lex (x.map UInt8.toNat) (y.map UInt8.toNat)
  | _, [] => by simp [Go.Op.bytesLess, lex]
  | [], _ :: _ => by simp [Go.Op.bytesLess, lex]
  | a :: x, b :: y => by
    simp only [Go.Op.bytesLess, lex, List.map_cons, bytes_lex x y]
    congr 2
    rw [Bool.eq_iff_iff, beq_iff_eq, beq_iff_eq]
    exact ⟨fun h => by rw [h], fun h => UInt8.toNat_inj.1 h⟩
theorem text_less (a b : ByteArray) : Go.Op.bytesLess a.toList b.toList = lex (nats a) (nats b) := by
  rw [ByteArray.toList_eq, ByteArray.toList_eq]
  exact bytes_lex _ _
theorem nats_ne {a b : ByteArray} (h : ¬ a = b) : ¬ nats a = nats b := fun e => h (by rw [← txt_nats a, ← txt_nats b, e])
/-- '>' of two unlike texts. -/
theorem gtr_text {a b : ByteArray} (h : ¬ a = b) (w : World) : (binOp .gtr 9 (.string a) (.string b)).run Tryz.prog w = .ok (.bool (lex (nats b) (nats a))) w := by
  have k := text_list h
  have e : lex (nats b) (nats a) = !(Go.Op.bytesLess a.toList b.toList || a.toList == b.toList) := by
    rw [text_less, beq_eq_false_iff_ne.2 k, Bool.or_false]
    rcases lex_tri (nats a) (nats b) with h1 | h1 | h1
    · exact absurd h1 (nats_ne h)
    · rw [h1, strict_lex.asym h1]; rfl
    · rw [h1, strict_lex.asym h1]; rfl
  rw [show binOp .gtr 9 (.string a) (.string b) = pure (.bool (!(Go.Op.bytesLess a.toList b.toList || a.toList == b.toList))) by simp [binOp, Go.Op.stringOp], e]
  rfl
theorem neq_stamp {a1 a2 b1 b2 : Int} (w : World) : (binOp .neq 24 (.agg #[.int .i64 a1, .int .i64 a2]) (.agg #[.int .i64 b1, .int .i64 b2])).run Tryz.prog w = .ok (.bool (!decide ((a1, a2) = (b1, b2)))) w := by
  by_cases h1 : a1 = b1
  · by_cases h2 : a2 = b2
    · subst h1; subst h2
      rw [decide_eq_true rfl]
      go_simp
    · rw [decide_eq_false (by simp [h2])]
      subst h1
      go_simp
  · rw [decide_eq_false (by simp [h1])]
    go_simp
set_option maxRecDepth 100000 in
theorem refVisible15 (a : RegV) (w : World) : Calls Tryz.prog 51 #[a.val] w fun e w' => e = .returned (.bool (decide (0 < a.time) && !a.gone)) ∧ Below w.heap.size w w' := by
  obtain ⟨t, r, v, g, l⟩ := a
  unfold RegV.val
  simp only
  have HB := Lib.hid ((Below.refl w.heap.size w).alloc (Nat.le_refl _) (.cells #[.int .i64 t, .int .i64 r, .string v, .bool g, .int .i64 l] 33))
  have HQ := Lib.hid (show decide (0 < t) = decide ((1 : Int) ≤ t) from decide_eq_decide.2 (by omega))
  cases g
  all_goals
    go_enter Tryz.func51, Tryz.ntmps51
    go_wp2
    go_ret
    exact ⟨by rw [HQ.out]; simp, HB.out⟩
set_option maxRecDepth 100000 in
set_option maxHeartbeats 4000000 in
theorem refAbove15 (a b : RegV) (w : World) : Calls Tryz.prog 61 #[a.val, b.val] w fun e w' => e = .returned (.bool (above a.c b.c)) ∧ Below w.heap.size w w' := by
  obtain ⟨t, r, v, g, l⟩ := a
  obtain ⟨t2, r2, v2, g2, l2⟩ := b
  unfold RegV.val RegV.c
  simp only
  have HB := Lib.hid (((Below.refl w.heap.size w).alloc (Nat.le_refl _) (.cells #[.int .i64 t, .int .i64 r, .string v, .bool g, .int .i64 l] 33)).alloc (by simp) (.cells #[.int .i64 t2, .int .i64 r2, .string v2, .bool g2, .int .i64 l2] 33))
  by_cases h1 : (t, r) = (t2, r2)
  · obtain ⟨rfl, rfl⟩ := Prod.mk.inj h1
    have q := fun w => neq_stamp (a1 := t) (a2 := r) (b1 := t) (b2 := r) w
    rw [decide_eq_true rfl] at q
    cases g <;> cases g2
    · by_cases h2 : v = v2
      · subst h2
        have HV := Lib.hid (show above ⟨(t, r), nats v, false, l⟩ ⟨(t, r), nats v, false, l2⟩ = decide (l2 < l) by simp [above])
        rw [HV.out]
        clear h1
        go_enter Tryz.func61, Tryz.ntmps61
        go_wp2
        go_ret
        exact ⟨rfl, HB.out⟩
      · have HV := Lib.hid (show above ⟨(t, r), nats v, false, l⟩ ⟨(t, r), nats v2, false, l2⟩ = lex (nats v2) (nats v) by simp [above, nats_ne h2])
        rw [HV.out]
        have q2 := fun w => neq_text v v2 w
        rw [decide_eq_false h2] at q2
        have q3 := fun w => gtr_text h2 w
        have q4 : (v.toList == v2.toList) = false := beq_eq_false_iff_ne.2 (text_list h2)
        clear h1 h2
        go_enter Tryz.func61, Tryz.ntmps61
        go_wp2
        go_ret
        exact ⟨rfl, HB.out⟩
    · have HV := Lib.hid (show above ⟨(t, r), nats v, false, l⟩ ⟨(t, r), nats v2, true, l2⟩ = false by simp [above])
      rw [HV.out]
      clear h1
      go_enter Tryz.func61, Tryz.ntmps61
      go_wp2
      go_ret
      exact ⟨rfl, HB.out⟩
    · have HV := Lib.hid (show above ⟨(t, r), nats v, true, l⟩ ⟨(t, r), nats v2, false, l2⟩ = true by simp [above])
      rw [HV.out]
      clear h1
      go_enter Tryz.func61, Tryz.ntmps61
      go_wp2
      go_ret
      exact ⟨rfl, HB.out⟩
    · by_cases h2 : v = v2
      · subst h2
        have HV := Lib.hid (show above ⟨(t, r), nats v, true, l⟩ ⟨(t, r), nats v, true, l2⟩ = decide (l2 < l) by simp [above])
        rw [HV.out]
        clear h1
        go_enter Tryz.func61, Tryz.ntmps61
        go_wp2
        go_ret
        exact ⟨rfl, HB.out⟩
      · have HV := Lib.hid (show above ⟨(t, r), nats v, true, l⟩ ⟨(t, r), nats v2, true, l2⟩ = lex (nats v2) (nats v) by simp [above, nats_ne h2])
        rw [HV.out]
        have q2 := fun w => neq_text v v2 w
        rw [decide_eq_false h2] at q2
        have q3 := fun w => gtr_text h2 w
        have q4 : (v.toList == v2.toList) = false := beq_eq_false_iff_ne.2 (text_list h2)
        clear h1 h2
        go_enter Tryz.func61, Tryz.ntmps61
        go_wp2
        go_ret
        exact ⟨rfl, HB.out⟩
  · have q := fun w => neq_stamp (a1 := t) (a2 := r) (b1 := t2) (b2 := r2) w
    rw [decide_eq_false h1] at q
    have HV := Lib.hid (show above ⟨(t, r), nats v, g, l⟩ ⟨(t2, r2), nats v2, g2, l2⟩ = less (t2, r2) (t, r) by unfold above; rw [if_pos h1])
    rw [HV.out]
    have HL := Lib.hid (fun w => refLess t2 r2 t r w)
    clear h1
    go_enter Tryz.func61, Tryz.ntmps61
    go_wp2_with fail
    refine (HL.out _).mono ?_
    rintro e w5 ⟨rfl, hb⟩
    have HB5 := Lib.hid (HB.out.trans (hb.mono HB.out.size))
    clear hb
    go_wp2
    go_ret
    exact ⟨rfl, HB5.out⟩
end Go.Proofs.YtgbhfhnbmgkaoaaGreatDoor
namespace Go.Proofs.YtgbhfhnbmgkaoaaGreatDoor
open Go.RowKit TextNat RegMath StoreMath

/-- '<' of two texts. -/
theorem lss_text (a b : ByteArray) (w : World) : (binOp .lss 9 (.string a) (.string b)).run Tryz.prog w = .ok (.bool (lex (nats a) (nats b))) w := by
  rw [show binOp .lss 9 (.string a) (.string b) = pure (.bool (Go.Op.bytesLess a.toList b.toList)) by simp [binOp, Go.Op.stringOp], text_less]
  rfl
theorem klt_v (x y : RowV) : klt x.r.k y.r.k = (lex (nats x.session) (nats y.session) || (decide (x.session = y.session) && lex (nats x.key) (nats y.key))) := by
  show (if nats x.session = nats y.session then lex (nats x.key) (nats y.key) else lex (nats x.session) (nats y.session)) = _
  by_cases h : x.session = y.session
  · rw [if_pos (by rw [h]), h, lex_irr, decide_eq_true rfl]
    simp
  · rw [if_neg (nats_ne h), decide_eq_false h]
    simp
set_option maxRecDepth 100000 in
theorem refBelow16 (x y : RowV) (w : World) : Calls Tryz.prog 21 #[x.val, y.val] w fun e w' => e = .returned (.bool (klt x.r.k y.r.k)) ∧ Below w.heap.size w w' := by
  rw [klt_v]
  obtain ⟨xs, xk, xc⟩ := x
  obtain ⟨ys, yk, yc⟩ := y
  have HB := Lib.hid (((Below.refl w.heap.size w).alloc (Nat.le_refl _) (.cells #[.string xs, .string xk, .int .i64 xc.time, .int .i64 xc.region, .string xc.value, .bool xc.gone, .int .i64 xc.life] 35)).alloc (by simp) (.cells #[.string ys, .string yk, .int .i64 yc.time, .int .i64 yc.region, .string yc.value, .bool yc.gone, .int .i64 yc.life] 35))
  have q1 := text_less xs ys
  have q2 := text_less xk yk
  obtain ⟨p1, hp1⟩ : ∃ p, p = lex (nats xs) (nats ys) := ⟨_, rfl⟩
  obtain ⟨p2, hp2⟩ : ∃ p, p = lex (nats xk) (nats yk) := ⟨_, rfl⟩
  simp only [RowV.val] at *
  rw [← hp1] at q1 ⊢
  rw [← hp2] at q2 ⊢
  clear hp1 hp2
  by_cases h : xs = ys
  · subst h
    rw [decide_eq_true rfl]
    cases p1 <;> cases p2
    all_goals
      go_enter Tryz.func21, Tryz.ntmps21
      go_wp2
      go_ret
      exact ⟨rfl, HB.out⟩
  · rw [decide_eq_false h]
    have k := text_list h
    have k' : (xs.toList == ys.toList) = false := beq_eq_false_iff_ne.2 k
    clear h
    cases p1 <;> cases p2
    all_goals
      go_enter Tryz.func21, Tryz.ntmps21
      go_wp2
      go_ret
      exact ⟨rfl, HB.out⟩
/-- The document's store: rows behind a pointer. -/
def RefSto (w : World) (b : Nat) (xs : List RowV) : Prop := ∃ pp c, Lies w b [.slice pp xs.length c] 50 ∧ xs.length ≤ c ∧ c ≤ 9223372036854775807 ∧ RowsIn w pp xs
theorem RefSto.below {w w' : World} {b : Nat} {xs : List RowV} (h : RefSto w b xs) (hb : Below w.heap.size w w') : RefSto w' b xs := by
  obtain ⟨pp, c, h1, h2, h3, h4⟩ := h
  exact ⟨pp, c, h1.below hb, h2, h3, h4.grown hb⟩
/-- Where a key's row stands. -/
def idxV (xs : List RowV) (s k : ByteArray) : Option Nat := xs.findIdx? fun x => decide (x.session = s ∧ x.key = k)
def idxI (xs : List RowV) (s k : ByteArray) : Int := match idxV xs s k with
  | some i => (i : Int)
  | none => -1
theorem idx_at {xs : List RowV} {s k : ByteArray} {i : Nat} {x : RowV} (h : ∀ j y, j < i → xs[j]? = some y → ¬ (y.session = s ∧ y.key = k)) (hi : xs[i]? = some x) (hx : x.session = s ∧ x.key = k) : idxV xs s k = some i := by
  unfold idxV
  rw [List.findIdx?_eq_some_iff_getElem]
  obtain ⟨h1, h2⟩ := List.getElem?_eq_some_iff.1 hi
  refine ⟨h1, by rw [h2]; exact decide_eq_true hx, fun j hj he => ?_⟩
  exact h j _ hj (List.getElem?_eq_getElem (Nat.lt_trans hj h1)) (of_decide_eq_true he)
theorem idx_no {xs : List RowV} {s k : ByteArray} (h : ∀ j y, j < xs.length → xs[j]? = some y → ¬ (y.session = s ∧ y.key = k)) : idxV xs s k = none := by
  unfold idxV
  rw [List.findIdx?_eq_none_iff]
  intro x hx
  obtain ⟨j, hj⟩ := List.getElem?_of_mem hx
  exact decide_eq_false (h j x (List.getElem?_eq_some_iff.1 hj).1 hj)
set_option maxRecDepth 100000 in
set_option maxHeartbeats 4000000 in
theorem refCell16 (b : Nat) (xs : List RowV) (s k : ByteArray) (w : World) (h : RefSto w b xs) :
    Calls Tryz.prog 42 #[.pointer (some ⟨b, 0, none⟩), .string s, .string k] w fun e w' => e = .returned (.int .i64 (idxI xs s k)) ∧ w' = w := by
  obtain ⟨pp, c, hl, hc, hm, hr⟩ := h
  obtain ⟨N, hN⟩ : ∃ N, N = xs.length := ⟨_, rfl⟩
  rw [← hN] at hl hc
  have c0 := Lies.cell (i := 0) hl rfl
  have HR := Lib.hid hr
  have HN := Lib.hid hN
  clear hl hr hN
  go_enter Tryz.func42, Tryz.ntmps42
  go_wp2
  go_loopg [7] N (fun gh s7 wx => ∃ i : Nat, i + gh = N ∧ s7 = .int .i64 (i : Int) ∧ Hid (∀ j y, j < i → xs[j]? = some y → ¬ (y.session = s ∧ y.key = k)) ∧ wx = w)
  case atStart => exact ⟨0, by omega, by go_num, Lib.hid (fun j y hj => absurd hj (Nat.not_lt_zero j)), rfl⟩
  case round =>
    obtain ⟨i, hi, rfl, HJ, rfl⟩ := hrel
    by_cases hlt : i < N
    · have t1 : decide ((i : Int) < (N : Int)) = true := decide_eq_true (by omega)
      have t1' : decide (i < N) = true := decide_eq_true hlt
      obtain ⟨x, hx⟩ : ∃ x, xs[i]? = some x := ⟨_, List.getElem?_eq_getElem (by rw [← HN.out]; exact hlt)⟩
      obtain ⟨b1, o1, rfl⟩ := HR.out.addr (by rw [← HN.out]; omega)
      obtain ⟨d0, d1, _, _, _, _, _⟩ := HR.out.look hx
      have HX := Lib.hid hx
      have HJ2 := Lib.hid (fun (hn : ¬ (x.session = s ∧ x.key = k)) => show ∀ j y, j < i + 1 → xs[j]? = some y → ¬ (y.session = s ∧ y.key = k) from fun j y hj hy => by
        by_cases e : j < i
        · exact HJ.out j y e hy
        · obtain rfl : j = i := by omega
          obtain rfl := Option.some.inj (HX.out.symm.trans hy)
          exact hn)
      have HI := Lib.hid (And.intro hi hlt)
      clear hx
      by_cases h1 : x.session = s
      · by_cases h2 : x.key = k
        · have HF := Lib.hid (show idxI xs s k = (i : Int) by unfold idxI; rw [idx_at HJ.out HX.out ⟨h1, h2⟩])
          rw [h1] at d0
          rw [h2] at d1
          clear h1 h2 hi
          go_wp2
          go_ret
          exact ⟨by rw [HF.out]; rfl, rfl⟩
        · have k2 := text_list h2
          have k2' : (x.key.toList == k.toList) = false := beq_eq_false_iff_ne.2 k2
          have HJ3 := Lib.hid (HJ2.out (fun e => h2 e.2))
          rw [h1] at d0
          clear h1 h2 hi
          go_wp2
          go_roundg (N - (i + 1))
          case measure => have := HI.out; omega
          case rel => exact ⟨i + 1, by have := HI.out; omega, by go_num, HJ3, rfl⟩
      · have k1 := text_list h1
        have k1' : (x.session.toList == s.toList) = false := beq_eq_false_iff_ne.2 k1
        have HJ3 := Lib.hid (HJ2.out (fun e => h1 e.1))
        clear h1 hi
        go_wp2
        go_roundg (N - (i + 1))
        case measure => have := HI.out; omega
        case rel => exact ⟨i + 1, by have := HI.out; omega, by go_num, HJ3, rfl⟩
    · have t1 : decide ((i : Int) < (N : Int)) = false := decide_eq_false (by omega)
      have t1' : decide (i < N) = false := decide_eq_false hlt
      have HF := Lib.hid (show idxI xs s k = -1 by unfold idxI; rw [idx_no (fun j y hj hy => HJ.out j y (by rw [← HN.out] at hj; omega) hy)])
      clear hlt hi
      go_wp2
      go_ret
      exact ⟨by rw [HF.out]; rfl, rfl⟩
end Go.Proofs.YtgbhfhnbmgkaoaaGreatDoor
