/-
  StoreMakes' contract: it answers true of any rows and write, out of the program's contracts. The conditions: the rows and the write's vector lie in memory; errors.errorType reads as its own handle.
-/
import Derived.Test.YtgbhfhnbmgkaoaaGreatDoorPart09
import Derived.Test.YtgbhfhnbmgkaoaaGreatDoorPart16
import Derived.Test.YtgbhfhnbmgkaoaaGreatDoorStoreAlike
import Derived.Test.YtgbhfhnbmgkaoaaGreatDoorPart15
import Derived.Test.YtgbhfhnbmgkaoaaGreatDoorPart12
import Derived.Test.YtgbhfhnbmgkaoaaGreatDoorPart14
import Derived.Test.YtgbhfhnbmgkaoaaGreatDoorPart17
import Derived.Deep.RegionHeld3
namespace Go.Proofs.YtgbhfhnbmgkaoaaGreatDoor
open Go.RowKit TextNat RegMath

/-- A write's copy in a block, cell by cell. -/
abbrev TenM (g : Nat) (y : WriteV) (w : World) : Prop := w.cell? ⟨g, 0, none⟩ = some (.int .i64 y.region) ∧ w.cell? ⟨g, 1, none⟩ = some (.int .i64 y.number) ∧ w.cell? ⟨g, 2, none⟩ = some (.int .i64 y.time) ∧ w.cell? ⟨g, 3, none⟩ = some (.int .i64 y.sreg) ∧ w.cell? ⟨g, 4, none⟩ = some (.slice y.dp y.dl.length y.dc) ∧ w.cell? ⟨g, 5, none⟩ = some (.string y.session) ∧ w.cell? ⟨g, 6, none⟩ = some (.string y.key) ∧ w.cell? ⟨g, 7, none⟩ = some (.string y.value) ∧ w.cell? ⟨g, 8, none⟩ = some (.bool y.gone) ∧ w.cell? ⟨g, 9, none⟩ = some (.int .i64 y.life)
theorem tenm_of {w : World} {g : Nat} {y : WriteV} {T : TypeId} (h : Lies w g y.cells T) : TenM g y w := ⟨h.cell (i := 0) rfl, h.cell (i := 1) rfl, h.cell (i := 2) rfl, h.cell (i := 3) rfl, h.cell (i := 4) rfl, h.cell (i := 5) rfl, h.cell (i := 6) rfl, h.cell (i := 7) rfl, h.cell (i := 8) rfl, h.cell (i := 9) rfl⟩
theorem half_same {D : Sto} (hP : Store16 D) {w0 w : World} {s x g : Nat} {xs : List RowV} {l : List Value} {T : TypeId} (h : Half17 D w0 w s x xs xs g l T) (hs : Short xs) (a k : ByteArray) (ha : a.size ≤ 1000) (hk : k.size ≤ 1000) :
    Calls Tryz.prog 11 #[ptr16 s, ptr16 x, .string a, .string k] w fun e w' => e = .returned (.bool true) ∧ Half17 D w0 w' s x xs xs g l T :=
  (same16b D hP w0 w s x xs a k h.pair hs ha hk).mono fun _ _ h2 => ⟨h2.1, h.below h2.2.2⟩
/-- One write in a block, as a row of writes. -/
theorem one_write {w : World} {b : Nat} {y : WriteV} {T : TypeId} (h : Lies w b y.cells T) (hy : Ints w y.dp y.dl) : WritesIn w (some ⟨b, 0, none⟩) [y] := fun i z hz => by
  have hi : i = 0 := by have := (List.getElem?_eq_some_iff.1 hz).1; simp at this; exact this
  subst hi
  obtain rfl : y = z := by simpa using hz
  exact ⟨b, 0, rfl, fun j u hj => by rw [Nat.zero_mul, Nat.zero_add]; simpa using h.cell hj, hy⟩
def longR (x : RowV) : Bool := decide (1000 < x.session.size) || (decide (1000 < x.key.size) || decide (1000 < x.cell.value.size))
theorem longR_not {x : RowV} (h : longR x = false) : x.session.size ≤ 1000 ∧ x.key.size ≤ 1000 ∧ x.cell.value.size ≤ 1000 := by
  unfold longR at h
  simp only [Bool.or_eq_false_iff, decide_eq_false_iff_not] at h
  omega
set_option maxRecDepth 100000 in
set_option maxHeartbeats 16000000 in
theorem makes_true (D : Sto) (hP : Store16 D) (hO : Of16 D) (p : Option Addr) (c : Nat) (xs : List RowV) (y : WriteV) (w : World) (h : RowsIn w p xs) (hc : xs.length ≤ c) (hm : c ≤ 9223372036854775807) (hy : Ints w y.dp y.dl) (hg : Handle w) :
    Calls Tryz.prog 3 #[.slice p xs.length c, y.val] w fun e w' => e = .returned (.bool true) ∧ Below w.heap.size w w' := by
  have HA := Lib.hid (awake16 D hP)
  have HP := Lib.hid hP
  have HO := Lib.hid hO
  have HI := Lib.hid h
  have HY := Lib.hid hy
  have HG := Lib.hid hg
  have HC := Lib.hid (And.intro hc hm)
  obtain ⟨N, hN⟩ : ∃ N, N = xs.length := ⟨_, rfl⟩
  have HN := Lib.hid hN
  obtain ⟨g, hgq⟩ : ∃ g, g = w.heap.size := ⟨_, rfl⟩
  obtain ⟨W0, hW0⟩ : ∃ W0, W0 = w.alloc (.cells #[.int .i64 y.region, .int .i64 y.number, .int .i64 y.time, .int .i64 y.sreg, .slice y.dp y.dl.length y.dc, .string y.session, .string y.key, .string y.value, .bool y.gone, .int .i64 y.life] 28) := ⟨_, rfl⟩
  have HB0 := Lib.hid (show Below w.heap.size w W0 by rw [hW0]; exact (Below.refl _ _).alloc (Nat.le_refl _) _)
  have HL0 := Lib.hid (show Lies W0 g y.cells 28 by rw [hW0, hgq]; exact Lies.new w y.cells _)
  have HW0 := Lib.hid hW0
  have HGq := Lib.hid hgq
  rw [← hN] at hc ⊢
  clear h hP hO hy hg hm hN hgq hW0
  show Calls Tryz.prog 3 #[.slice p N c, .agg #[.int .i64 y.region, .int .i64 y.number, .int .i64 y.time, .int .i64 y.sreg, .slice y.dp y.dl.length y.dc, .string y.session, .string y.key, .string y.value, .bool y.gone, .int .i64 y.life]] w fun e w' => e = .returned (.bool true) ∧ Below w.heap.size w w'
  go_enter Tryz.func3, Tryz.ntmps3
  go_wp2_with fail
  rw [← HW0.out, ← HGq.out]
  refine (HA.out _).mono ?_
  rintro e w1 ⟨rfl, h1⟩
  have HB1 := Lib.hid (HB0.out.trans (h1.mono HB0.out.size))
  have HL1 := Lib.hid (HL0.out.below h1)
  clear h1
  by_cases h60 : 60 < N
  · have t1 : decide ((60 : Int) < (N : Int)) = true := decide_eq_true (by omega)
    have t1' : decide (60 < N) = true := decide_eq_true h60
    clear h60
    go_wp2
    go_ret
    exact ⟨rfl, HB1.out⟩
  have t1 : decide ((60 : Int) < (N : Int)) = false := decide_eq_false (by omega)
  have t1' : decide (60 < N) = false := decide_eq_false h60
  have hN60 : N ≤ 60 := by omega
  clear h60
  have hal : Below w1.heap.size w1 (w1.alloc (.cells y.cells.toArray 28)) := (Below.refl _ _).alloc (Nat.le_refl _) _
  have hgr := great16 (some ⟨w1.heap.size, 0, none⟩) 1 [y] (w1.alloc (.cells y.cells.toArray 28)) (one_write (Lies.new w1 y.cells _) (HY.out.grown (HB1.out.trans (hal.mono HB1.out.size)))) (by show 1 ≤ 9223372036854775807; omega)
  have HGr := Lib.hid hgr
  have HAl := Lib.hid hal
  clear hgr hal
  have r0 := HL1.out.cell (i := 0) rfl; have r1 := HL1.out.cell (i := 1) rfl; have r2 := HL1.out.cell (i := 2) rfl; have r3 := HL1.out.cell (i := 3) rfl; have r4 := HL1.out.cell (i := 4) rfl; have r5 := HL1.out.cell (i := 5) rfl; have r6 := HL1.out.cell (i := 6) rfl; have r7 := HL1.out.cell (i := 7) rfl; have r8 := HL1.out.cell (i := 8) rfl; have r9 := HL1.out.cell (i := 9) rfl
  go_wp2_with fail
  refine HGr.out.mono ?_
  rintro e w2 ⟨rfl, h2⟩
  have HB2 := Lib.hid (HB1.out.trans ((HAl.out.trans (h2.mono HAl.out.size)).mono HB1.out.size))
  have HL2 := Lib.hid (HL1.out.below (HAl.out.trans (h2.mono HAl.out.size)))
  clear h2 r0 r1 r2 r3 r4 r5 r6 r7 r8 r9
  cases hgw : greatW [y] with
  | true =>
    clear hgw
    go_wp2
    go_ret
    exact ⟨rfl, HB2.out⟩
  | false =>
  have HYt := Lib.hid ((greatW_not hgw).2 y (by simp))
  clear hgw HGr HAl HB1 HL1 t1 t1'
  go_wp2_with fail
  go_loopg [26] N (fun gh s26 wx => ∃ i : Nat, i + gh = N ∧ s26 = .int .i64 (i : Int) ∧ Hid (Below w2.heap.size w2 wx) ∧ Hid (∀ (j : Nat) (x : RowV), j < i → xs[j]? = some x → longR x = false))
  case atStart => exact ⟨0, by omega, by go_num, Lib.hid (Below.refl _ _), Lib.hid (fun j x hj => absurd hj (Nat.not_lt_zero j))⟩
  case round =>
    obtain ⟨i, hi, rfl, HB, HT⟩ := hrel
    rename World => W
    by_cases hlt : i < N
    · have q1 : decide ((i : Int) < (N : Int)) = true := decide_eq_true (by omega)
      have q1' : decide (i < N) = true := decide_eq_true hlt
      have q0 : (i : Int) < (N : Int) := by omega
      obtain ⟨x, hx⟩ : ∃ x, xs[i]? = some x := ⟨_, List.getElem?_eq_getElem (by rw [← HN.out]; exact hlt)⟩
      have HRW := Lib.hid (HI.out.grown (HB2.out.trans (HB.out.mono HB2.out.size)))
      obtain ⟨b1, o1, hp⟩ := HI.out.addr (by rw [← HN.out]; omega)
      subst hp
      obtain ⟨d0, d1, d2, d3, d4, d5, d6⟩ := HRW.out.look hx
      have HIn := Lib.hid (And.intro hi hlt)
      have HBa := Lib.hid (show Below w2.heap.size w2 (W.alloc (.cells #[.string x.session, .string x.key, .int .i64 x.cell.time, .int .i64 x.cell.region, .string x.cell.value, .bool x.cell.gone, .int .i64 x.cell.life] 35)) from HB.out.trans ((Below.refl _ _).alloc (Nat.le_refl _) _ |>.mono HB.out.size))
      have HBw := Lib.hid (HB2.out.trans (HBa.out.mono HB2.out.size))
      cases hlong : longR x with
      | true =>
        have hl2 : 1000 < x.session.size ∨ 1000 < x.key.size ∨ 1000 < x.cell.value.size := by
          unfold longR at hlong
          simpa using hlong
        clear hlong hx hi hlt
        by_cases k1 : 1000 < x.session.size
        · have u1 : decide ((1000 : Int) < (x.session.size : Int)) = true := decide_eq_true (by omega)
          have u2 : decide (1000 < x.session.size) = true := decide_eq_true k1
          clear hl2 k1
          go_wp2
          go_ret
          exact ⟨rfl, HBw.out⟩
        have u1 : decide ((1000 : Int) < (x.session.size : Int)) = false := decide_eq_false (by omega)
        have u2 : decide (1000 < x.session.size) = false := decide_eq_false k1
        by_cases k2 : 1000 < x.key.size
        · have u3 : decide ((1000 : Int) < (x.key.size : Int)) = true := decide_eq_true (by omega)
          have u4 : decide (1000 < x.key.size) = true := decide_eq_true k2
          clear hl2 k1 k2
          go_wp2
          go_ret
          exact ⟨rfl, HBw.out⟩
        have u3 : decide ((1000 : Int) < (x.key.size : Int)) = false := decide_eq_false (by omega)
        have u4 : decide (1000 < x.key.size) = false := decide_eq_false k2
        have u5 : decide ((1000 : Int) < (x.cell.value.size : Int)) = true := decide_eq_true (by omega)
        have u6 : decide (1000 < x.cell.value.size) = true := decide_eq_true (by omega)
        clear hl2 k1 k2
        go_wp2
        go_ret
        exact ⟨rfl, HBw.out⟩
      | false =>
        obtain ⟨k1, k2, k3⟩ := longR_not hlong
        have u1 : decide ((1000 : Int) < (x.session.size : Int)) = false := decide_eq_false (by omega)
        have u2 : decide (1000 < x.session.size) = false := decide_eq_false (by omega)
        have u3 : decide ((1000 : Int) < (x.key.size : Int)) = false := decide_eq_false (by omega)
        have u4 : decide (1000 < x.key.size) = false := decide_eq_false (by omega)
        have u5 : decide ((1000 : Int) < (x.cell.value.size : Int)) = false := decide_eq_false (by omega)
        have u6 : decide (1000 < x.cell.value.size) = false := decide_eq_false (by omega)
        have HTn := Lib.hid (show ∀ (j : Nat) (z : RowV), j < i + 1 → (xs : List RowV)[j]? = some z → longR z = false from fun j z hj hz => by
          by_cases hji : j = i
          · subst hji
            rw [hx] at hz
            rw [← Option.some.inj hz]
            exact hlong
          · exact HT.out j z (by omega) hz)
        clear hlong k1 k2 k3 hx hi hlt
        go_wp2
        go_roundg (N - (i + 1))
        case measure => have := HIn.out; omega
        case rel => exact ⟨i + 1, by have := HIn.out; omega, by go_num, HBa, HTn⟩
    · have q1 : decide ((i : Int) < (N : Int)) = false := decide_eq_false (by omega)
      have q1' : decide (i < N) = false := decide_eq_false hlt
      have HXt := Lib.hid (show ∀ x ∈ xs, x.session.size ≤ 1000 ∧ x.key.size ≤ 1000 ∧ x.cell.value.size ≤ 1000 from fun x hx => by
        obtain ⟨j, hj⟩ := List.getElem?_of_mem hx
        exact longR_not (HT.out j x (by have := (List.getElem?_eq_some_iff.1 hj).1; have := HN.out; omega) hj))
      have HBW := Lib.hid (HB2.out.trans (HB.out.mono HB2.out.size))
      have HLW := Lib.hid (HL2.out.below HB.out)
      clear hi hlt HT HB HB2 HL2
      have HRw := Lib.hid (fun w1 (hw : Below w.heap.size w w1) => by
        have h1 := rows16 p c xs w1 (HI.out.grown hw) (by have := HN.out; omega)
        rw [← HN.out] at h1
        exact h1)
      have HWr := Lib.hid (fun w1 (hw : Below w.heap.size w w1) => by
        have h1 := refWrong16 p c xs w1 (HI.out.grown hw) (by have := HN.out; omega)
        rw [← HN.out] at h1
        exact h1)
      go_wp2_with fail
      refine (HRw.out W HBW.out).mono ?_
      rintro e W5 ⟨⟨v5, rfl, hv5⟩, h5⟩
      obtain ⟨p5, c5, rfl, hc5, hm5⟩ := hv5.shape
      have HB5 := Lib.hid (HBW.out.trans (h5.mono HBW.out.size))
      have HL5 := Lib.hid (HLW.out.below h5)
      have hOf := HO.out p5 c5 xs W5 hv5.rows hc5 hm5 (by have := HN.out; omega) HXt.out
      clear h5 hv5 hc5 hm5 HBW HLW HRw
      go_wp2_with fail
      cases hw : wrongV xs with
      | some i =>
        rw [hw] at hOf
        refine hOf.mono ?_
        clear hOf
        rintro e W6 ⟨⟨xe, rfl, hx⟩, h6⟩
        obtain ⟨k, hk⟩ : ∃ k : Nat, k = i + 1 := ⟨_, rfl⟩
        rw [← hk] at hx
        have hwi : wrongI xs = (k : Int) := by unfold wrongI; rw [hw, hk]
        have HB6 := Lib.hid (HB5.out.trans (h6.mono HB5.out.size))
        obtain ⟨l, hc⟩ := hx
        obtain ⟨b, rfl⟩ := hc.place
        have HCh := Lib.hid hc
        have HG6 := Lib.hid (HG.out.below HB6.out HG.out.lt)
        clear hc h6 hw
        go_wp2_with fail
        refine (HWr.out W6 HB6.out).mono ?_
        rintro e W7 ⟨rfl, h7⟩
        have HB7 := Lib.hid (HB6.out.trans (h7.mono HB6.out.size))
        replace HCh := Lib.hid (HCh.out.mono h7 h7.size)
        have HG7 := Lib.hid (HG.out.below HB7.out HG.out.lt)
        rw [hwi]
        have z1 : decide ((0 : Int) ≤ (k : Int)) = true := decide_eq_true (by omega)
        clear h7 hk hwi
        go_wp2_with (first
          | (go_at_call 9; refine (place_some _ _ _ _ HG7.out HCh.out.cells.1 HCh.out.cells.2).mono ?_; rintro e w2 ⟨rfl, hb⟩; replace HB7 := Lib.hid (HB7.out.trans (hb.mono HB7.out.size)); replace HCh := Lib.hid (HCh.out.mono hb hb.size); clear hb)
          | (go_at_call 10; refine (Is_chain _ _ _ _ _ _ HCh.out).mono ?_; rintro e w2 ⟨rfl, rfl⟩))
        all_goals
          go_ret
          exact ⟨by first | rfl | simp, HB7.out⟩
      | none =>
        rw [hw] at hOf
        refine hOf.mono ?_
        clear hOf
        rintro e W6 ⟨⟨s, S, rfl, hs1, hs2⟩, h6⟩
        have hwi : wrongI xs = -1 := by unfold wrongI; rw [hw]
        have HRi := Lib.hid (wrong_rises hw)
        have HB6 := Lib.hid (HB5.out.trans (h6.mono HB5.out.size))
        have HL6 := Lib.hid (HL5.out.below h6)
        have HS1 := Lib.hid hs1
        have HS2 := Lib.hid hs2
        have HS3 := Lib.hid (fun k hk => D.lt hs1 k hk)
        clear hs1 hs2 h6 hw
        go_wp2_with fail
        refine (HWr.out W6 HB6.out).mono ?_
        rintro e W7 ⟨rfl, h7⟩
        rw [hwi]
        have HB7 := Lib.hid (HB6.out.trans (h7.mono HB6.out.size))
        have HL7 := Lib.hid (HL6.out.below h7)
        have HS7 := Lib.hid (D.stays HS1.out h7.size fun k hk => h7.block k (HS3.out k hk))
        have HZ7 := Lib.hid h7.size
        clear h7 hwi
        obtain ⟨W8, hW8⟩ : ∃ W8, W8 = W7.alloc (.cells #[] 35) := ⟨_, rfl⟩
        have hb8 : Below W7.heap.size W7 W8 := by rw [hW8]; exact (Below.refl _ _).alloc (Nat.le_refl _) _
        have HO8 := Lib.hid (show OwnS 35 W8 W7.heap.size (.slice (some ⟨W7.heap.size, 0, none⟩) 0 0) [] from ownS_made (by rw [hW8]; exact heap_alloc_new W7 _) (Nat.le_refl _))
        have HB8 := Lib.hid (HB7.out.trans (hb8.mono HB7.out.size))
        have HR8 := Lib.hid (HI.out.grown HB8.out)
        have HZ8 := Lib.hid hb8
        have HW8 := Lib.hid hW8
        have hz : ([] : List RowV).length + xs.length ≤ 100000 := by have := HN.out; show 0 + xs.length ≤ 100000; omega
        clear hW8 hb8
        go_wp2_with (rw [← HW8.out]; at_builtin; refine app_rows rfl _ _ 22 35 info_refrow Tryz.underlying22 rfl W7.heap.size _ [] xs rfl HO8.out p N c HN.out rfl HR8.out hz HZ8.out.size ?_; intro v9 w9 h1 h2 _ _; replace h1 : OwnS 35 w9 W7.heap.size v9 xs := h1; have HO9 := Lib.hid h1; have HB9 := Lib.hid h2; obtain ⟨p9, c9, hv9, hc9, hm9⟩ := OwnS.shape h1; subst hv9; have HC9 := Lib.hid (And.intro hc9 hm9); clear h1 h2 hc9 hm9)
        obtain ⟨W, hW⟩ : ∃ W, W = w9.alloc (.cells #[.slice p9 xs.length c9] 50) := ⟨_, rfl⟩
        obtain ⟨x, hx⟩ : ∃ x, x = w9.heap.size := ⟨_, rfl⟩
        have H17 : Hid (Half17 D w W s x xs xs g y.cells 28) := Lib.hid (by
          have b9 : Below W7.heap.size W7 w9 := HZ8.out.trans HB9.out
          have b10 : Below w9.heap.size w9 W := by rw [hW]; exact (Below.refl _ _).alloc (Nat.le_refl _) _
          have b := b9.trans (b10.mono b9.size)
          have z1 := HZ7.out
          have z2 := HL5.out.lt
          have z3 := b9.size
          have z4 := HB5.out.size
          have z5 := b10.size
          have z6 := HL7.out.lt
          refine ⟨⟨S, p9, c9, D.stays HS7.out b.size fun k hk => b.block k (by have := HS3.out k hk; omega), fun k hk => by have := HS2.out k hk; omega, fun e => by have := HS3.out _ e; omega, by rw [hW, hx]; exact Lies.new w9 [.slice p9 xs.length c9] _, HC9.out.1, HC9.out.2, (OwnS.rows HO9.out).grown b10, fun a ha => ?_, by have := HB7.out.size; omega, fun e => by have := HS2.out _ e; omega⟩, HB7.out.trans (b.mono HB7.out.size), HL7.out.below b, by omega⟩
          subst ha
          have h1 := World.ownsRow.lt HO9.out a.block rfl
          exact ⟨fun e => by have := HS3.out _ e; omega, by omega⟩)
        have HSx : Hid (Short xs) := Lib.hid ⟨HRi.out, by have := HN.out; omega, HXt.out⟩
        obtain ⟨R, hR⟩ : ∃ R, R = (applyV xs y).2 := ⟨_, rfl⟩
        obtain ⟨Z, hZ⟩ : ∃ Z, Z = (applyV xs y).1 := ⟨_, rfl⟩
        have HSz := Lib.hid (show Short Z by rw [hZ]; exact short_apply HSx.out (by have := HN.out; omega) y HYt.out)
        have HM := Lib.hid (fun (q : List RowV) (w1 : World) (h : Half17 D w w1 s x q q g y.cells 28) (hq : q = xs ∨ q = Z) => half_same HP.out h (by rcases hq with e | e <;> rw [e]; exact HSx.out; exact HSz.out) y.session y.key HYt.out.1 HYt.out.2.1)
        have HC1 := Lib.hid (fun (w1 : World) (h : Half17 D w w1 s x xs xs g y.cells 28) => show Calls Tryz.prog 12 #[ptr16 s, y.val] w1 fun e w' => e = .returned (.bool R) ∧ Half17 D w w' s x xs Z g y.cells 28 by
          rw [hR, hZ]
          exact half_apply_s HP.out h HSx.out (by have := HN.out; omega) y ⟨HY.out.grown h.2.1, HYt.out⟩)
        have HC2 := Lib.hid (fun (w1 : World) (h : Half17 D w w1 s x xs Z g y.cells 28) => show Calls Tryz.prog 13 #[ptr16 x, y.val] w1 fun e w' => e = .returned (.bool R) ∧ Half17 D w w' s x Z Z g y.cells 28 by
          have h1 := half_apply_x h (by have := HN.out; omega) y
          rw [← hR, ← hZ] at h1
          exact h1)
        rw [← hW, ← hx]
        have hten := tenm_of H17.out.lies
        have HD := Lib.hid H17.out.drew
        have hRR : (R == R) = true := by simp
        clear hW hx hR hZ HO9 HB9 HC9 HS1 HS2 HS3 HS7 HZ7 HL5 HL6 HL7 HB5 HB6 HZ8 HR8 HO8 hz
        go_region_held3 (fun w' => TenM g y w') (first | exact tenm_of hm1.lies | exact tenm_of h2c.lies | exact tenm_of h1c.lies | exact hten) (first
          | (go_at_call 11
             refine (HM.out _ _ (by first | exact h2c | exact h2c.drew | exact H17.out | exact HD.out) (by first | exact .inl rfl | exact .inr rfl)).mono ?_
             rintro e wn ⟨rfl, hm1⟩)
          | (go_at_call 12
             refine (HC1.out _ (by first | exact hm1 | exact hm1.drew)).mono ?_
             rintro e wn ⟨rfl, h1c⟩)
          | (go_at_call 13
             refine (HC2.out _ (by first | exact h1c | exact h1c.drew)).mono ?_
             rintro e wn ⟨rfl, h2c⟩))
        have HE := Lib.hid hm1.2.1
        clear hm1 HM HC1 HC2
        go_wp2
        go_ret
        exact ⟨rfl, HE.out⟩
end Go.Proofs.YtgbhfhnbmgkaoaaGreatDoor
