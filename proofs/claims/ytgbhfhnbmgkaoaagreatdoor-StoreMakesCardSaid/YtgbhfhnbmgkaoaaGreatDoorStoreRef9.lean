/-
  The document's own Apply of chapter 16, walked. The conditions: the rows and the write lie in memory; at most 50,000 rows.
-/
import Derived.Test.YtgbhfhnbmgkaoaaGreatDoorPart08
import Derived.Test.YtgbhfhnbmgkaoaaGreatDoorPart11
namespace Go.Proofs.YtgbhfhnbmgkaoaaGreatDoor
open Go.RowKit TextNat RegMath

/-- '==' of two of the document's cells. -/
theorem eql_rc (a b : RegV) (w : World) : (binOp .eql 33 a.val b.val).run Tryz.prog w = .ok (.bool (decide (a = b))) w := by
  obtain ⟨a1, a2, a3, a4, a5⟩ := a
  obtain ⟨b1, b2, b3, b4, b5⟩ := b
  unfold RegV.val
  by_cases h1 : a1 = b1
  · by_cases h2 : a2 = b2
    · by_cases h3 : a3 = b3
      · by_cases h4 : a4 = b4
        · by_cases h5 : a5 = b5
          · subst h1; subst h2; subst h3; subst h4; subst h5
            rw [decide_eq_true rfl]
            go_simp
          · rw [decide_eq_false (by simp [h5])]
            subst h1; subst h2; subst h3; subst h4
            go_simp
        · rw [decide_eq_false (by simp [h4])]
          subst h1; subst h2; subst h3
          go_simp
      · rw [decide_eq_false (by simp [h3])]
        have k := text_list h3
        subst h1; subst h2
        go_simp
    · rw [decide_eq_false (by simp [h2])]
      subst h1
      go_simp
  · rw [decide_eq_false (by simp [h1])]
    go_simp
theorem out_at {xs A T : List RowV} {x r : RowV} {i : Nat} {a : Int} {d : Bool} (hx : xs[i]? = some r) (ha : (i : Int) = a) (H : A ++ outV x a (xs.drop i) i d = T) : (A ++ [x]) ++ outV x a (xs.drop (i + 1)) (i + 1) true = T := by
  obtain ⟨h1, rfl⟩ := List.getElem?_eq_some_iff.1 hx
  rw [List.drop_eq_getElem_cons h1, outV, if_pos ha] at H
  rw [← H]
  simp
theorem out_ahead {xs A T : List RowV} {x r : RowV} {i : Nat} {a : Int} (hx : xs[i]? = some r) (ha : (i : Int) ≠ a) (hk : StoreMath.klt x.r.k r.r.k = true) (H : A ++ outV x a (xs.drop i) i false = T) : ((A ++ [x]) ++ [r]) ++ outV x a (xs.drop (i + 1)) (i + 1) true = T := by
  obtain ⟨h1, rfl⟩ := List.getElem?_eq_some_iff.1 hx
  rw [List.drop_eq_getElem_cons h1, outV, if_neg ha, if_pos (by rw [hk]; rfl)] at H
  rw [← H]
  simp
theorem out_past {xs A T : List RowV} {x r : RowV} {i : Nat} {a : Int} {d : Bool} (hx : xs[i]? = some r) (ha : (i : Int) ≠ a) (hk : (!d && StoreMath.klt x.r.k r.r.k) = false) (H : A ++ outV x a (xs.drop i) i d = T) : (A ++ [r]) ++ outV x a (xs.drop (i + 1)) (i + 1) d = T := by
  obtain ⟨h1, rfl⟩ := List.getElem?_eq_some_iff.1 hx
  rw [List.drop_eq_getElem_cons h1, outV, if_neg ha, if_neg (by rw [hk]; decide)] at H
  rw [← H]
  simp
theorem out_end {xs A T : List RowV} {x : RowV} {i : Nat} {a : Int} {d : Bool} (hx : xs.length ≤ i) (H : A ++ outV x a (xs.drop i) i d = T) : A ++ (if d = true then [] else [x]) = T := by
  rw [List.drop_eq_nil_of_le hx, outV] at H
  exact H
/-- While the rows are made: the rows so far, and the new row beside them. -/
def InvA (W : World) (G X : Nat) (xr : RowV) (w : World) (v : Value) (A : List RowV) : Prop := OwnS 35 w G v A ∧ Lies w X xr.cells 35 ∧ (∀ k, v.ownBlock = some k → k ≠ X) ∧ Below G W w ∧ G ≤ w.heap.size
theorem InvA.below {W w w' : World} {G X : Nat} {xr : RowV} {v : Value} {A : List RowV} (h : InvA W G X xr w v A) (hb : Below w.heap.size w w') : InvA W G X xr w' v A :=
  ⟨h.1.below hb, h.2.1.below hb, h.2.2.1, h.2.2.2.1.trans (hb.mono h.2.2.2.2), Nat.le_trans h.2.2.2.2 hb.size⟩
theorem keepApp {W w w' : World} {q0 q1 q2 q3 q4 q5 q6 q7 q8 q9 q10 q11 q12 q13 q14 : Addr} {u0 u1 u2 u3 u4 u5 u6 u7 u8 u9 u10 u11 u12 u13 u14 : Value} (h : Below W.heap.size W w ∧ w.cell? q0 = some u0 ∧ w.cell? q1 = some u1 ∧ w.cell? q2 = some u2 ∧ w.cell? q3 = some u3 ∧ w.cell? q4 = some u4 ∧ w.cell? q5 = some u5 ∧ w.cell? q6 = some u6 ∧ w.cell? q7 = some u7 ∧ w.cell? q8 = some u8 ∧ w.cell? q9 = some u9 ∧ w.cell? q10 = some u10 ∧ w.cell? q11 = some u11 ∧ w.cell? q12 = some u12 ∧ w.cell? q13 = some u13 ∧ w.cell? q14 = some u14) (hb : Below w.heap.size w w') :
    Below W.heap.size W w' ∧ w'.cell? q0 = some u0 ∧ w'.cell? q1 = some u1 ∧ w'.cell? q2 = some u2 ∧ w'.cell? q3 = some u3 ∧ w'.cell? q4 = some u4 ∧ w'.cell? q5 = some u5 ∧ w'.cell? q6 = some u6 ∧ w'.cell? q7 = some u7 ∧ w'.cell? q8 = some u8 ∧ w'.cell? q9 = some u9 ∧ w'.cell? q10 = some u10 ∧ w'.cell? q11 = some u11 ∧ w'.cell? q12 = some u12 ∧ w'.cell? q13 = some u13 ∧ w'.cell? q14 = some u14 := by
  obtain ⟨hh, h0, h1, h2, h3, h4, h5, h6, h7, h8, h9, h10, h11, h12, h13, h14⟩ := h
  exact ⟨hh.trans (hb.mono hh.size), (hb.cell (World.block_lt_of_cell? w _ h0)).trans h0, (hb.cell (World.block_lt_of_cell? w _ h1)).trans h1, (hb.cell (World.block_lt_of_cell? w _ h2)).trans h2, (hb.cell (World.block_lt_of_cell? w _ h3)).trans h3, (hb.cell (World.block_lt_of_cell? w _ h4)).trans h4, (hb.cell (World.block_lt_of_cell? w _ h5)).trans h5, (hb.cell (World.block_lt_of_cell? w _ h6)).trans h6, (hb.cell (World.block_lt_of_cell? w _ h7)).trans h7, (hb.cell (World.block_lt_of_cell? w _ h8)).trans h8, (hb.cell (World.block_lt_of_cell? w _ h9)).trans h9, (hb.cell (World.block_lt_of_cell? w _ h10)).trans h10, (hb.cell (World.block_lt_of_cell? w _ h11)).trans h11, (hb.cell (World.block_lt_of_cell? w _ h12)).trans h12, (hb.cell (World.block_lt_of_cell? w _ h13)).trans h13, (hb.cell (World.block_lt_of_cell? w _ h14)).trans h14⟩
/-- append of one row, as one operation. -/
theorem app_inv {ops : Array Oper} {rest : List Oper} {o : Oper} {ac : Act} {Q : Exit → Act → World → Prop} {w : World} (hgd : o.guard = none) (s x : Operand)
    (ho : o.op = .call { callee := .builtin .append, args := #[s, x], argTypes := #[22, 22] })
    (W : World) (G X : Nat) (xr : RowV) (v : Value) (A : List RowV) (a : RowV) (hs : ac.eval s = v) (hinv : InvA W G X xr w v A) (g c : Nat) (hx : ac.eval x = .slice (some ⟨g, 0, none⟩) 1 c)
    (hnews : RowsIn w (some ⟨g, 0, none⟩) [a]) (hz : A.length + 1 ≤ 100000)
    (h : ∀ v' w', InvA W G X xr w' v' (A ++ [a]) → wpList Tryz.prog ops Q rest (ac.put o.dst v') w') : wpList Tryz.prog ops Q (o :: rest) ac w := by
  obtain ⟨h1, h2, h3, h4, h5⟩ := hinv
  refine app_rows hgd s x 22 35 info_refrow Tryz.underlying22 ho G v A [a] hs h1 _ 1 c rfl hx hnews hz h5 ?_
  intro v' w' k1 k2 k3 k4
  refine h v' w' ⟨k1, (k3.block X h2.lt (fun e => h3 X e.symm rfl)).trans h2, fun k hk => ?_, h4.trans k2, Nat.le_trans h5 k2.size⟩
  rcases k4 k hk with e | e
  · exact h3 k e
  · have := h2.lt
    omega
theorem fin16 {w W5 W : World} {b G X N cc c : Nat} {xr : RowV} {p pp : Option Addr} {xs A : List RowV} (hI : InvA W5 G X xr W (.slice p A.length c) A) (hL : Lies W b [.slice pp N cc] 50) (hb : b < G) (hG : w.heap.size ≤ G) (hB : Below w.heap.size w W5) :
    RefStoX w (W.setCell ⟨b, 0, none⟩ (.slice p A.length c)) b xs A ∧ But b w (W.setCell ⟨b, 0, none⟩ (.slice p A.length c)) := by
  obtain ⟨h1, h2, h3, h4, h5⟩ := hI
  obtain ⟨p', c', he, hc, hm⟩ := h1.shape
  obtain ⟨rfl, rfl⟩ : p = p' ∧ c = c' := by simpa using he
  refine ⟨⟨p, c, hL.set 0 _, hc, hm, fun j y hy => ?_, .inl (new_set h1 hG)⟩, (But.of (hB.trans (h4.mono hG))).trans (But.set b 0 W _)⟩
  obtain ⟨b2, o2, hp, hh⟩ := h1.rows j y hy
  refine ⟨b2, o2, hp, fun m u hu => ?_⟩
  have hc2 := hh m u hu
  refine ((But.set b 0 W _).cell (World.block_lt_of_cell? W _ hc2) (fun e => ?_)).trans hc2
  subst hp
  have g1 : G ≤ b2 := (World.ownsRow.lt h1 b2 rfl).1
  have g3 : b2 = b := e
  omega
set_option maxRecDepth 100000 in
set_option maxHeartbeats 4000000 in
theorem refApply16 (b : Nat) (xs : List RowV) (y : WriteV) (w : World) (h : RefSto w b xs) (hn : xs.length ≤ 50000) :
    Calls Tryz.prog 13 #[.pointer (some ⟨b, 0, none⟩), y.val] w fun e w' => e = .returned (.bool (applyV xs y).2) ∧ RefStoX w w' b xs (applyV xs y).1 ∧ But b w w' := by
  obtain ⟨y1, y2, y3, y4, yp, yl, yc, ys, yk, yv, yg, yi⟩ := y
  simp only [WriteV.val]
  obtain ⟨W1, hW1⟩ : ∃ W1, W1 = w.alloc (.cells #[.int .i64 y1, .int .i64 y2, .int .i64 y3, .int .i64 y4, .slice yp yl.length yc, .string ys, .string yk, .string yv, .bool yg, .int .i64 yi] 28) := ⟨_, rfl⟩
  obtain ⟨W2, hW2⟩ : ∃ W2, W2 = W1.alloc (.cells #[.int .i64 y3, .int .i64 y4, .string yv, .bool yg, .int .i64 yi] 33) := ⟨_, rfl⟩
  obtain ⟨A1, hA1⟩ : ∃ A1, A1 = w.heap.size := ⟨_, rfl⟩
  obtain ⟨A2, hA2⟩ : ∃ A2, A2 = w.heap.size + 1 := ⟨_, rfl⟩
  have al1 : Below w.heap.size w W1 := by rw [hW1]; exact (Below.refl _ _).alloc (Nat.le_refl _) _
  have sz1 : W1.heap.size = A2 := by rw [hW1, hA2]; simp
  have al2 : Below W1.heap.size W1 W2 := by rw [hW2]; exact (Below.refl _ _).alloc (Nat.le_refl _) _
  have hl1 : Lies W2 A1 [.int .i64 y1, .int .i64 y2, .int .i64 y3, .int .i64 y4, .slice yp yl.length yc, .string ys, .string yk, .string yv, .bool yg, .int .i64 yi] 28 := by rw [hA1]; exact Lies.below (by rw [hW1]; exact Lies.new w _ _) al2
  have hl2 : Lies W2 A2 [.int .i64 y3, .int .i64 y4, .string yv, .bool yg, .int .i64 yi] 33 := by rw [← sz1, hW2]; exact Lies.new W1 _ _
  have HB2 := Lib.hid (show Below w.heap.size w W2 from al1.trans (al2.mono al1.size))
  obtain ⟨pp, c, k1, k2, k3, k4⟩ := h
  have h2 : RefSto W2 b xs := ⟨pp, c, k1.below HB2.out, k2, k3, k4.grown HB2.out⟩
  have HC := Lib.hid (refCell16 b xs ys yk W2 h2)
  have HW := Lib.hid (show W2 = (w.alloc (.cells #[.int .i64 y1, .int .i64 y2, .int .i64 y3, .int .i64 y4, .slice yp yl.length yc, .string ys, .string yk, .string yv, .bool yg, .int .i64 yi] 28)).alloc (.cells #[.int .i64 y3, .int .i64 y4, .string yv, .bool yg, .int .i64 yi] 33) by rw [hW2, hW1])
  have HA1 := Lib.hid hA1
  have HA2 := Lib.hid hA2
  have HL1 := Lib.hid hl1
  have HL2 := Lib.hid hl2
  have h3 := k1.below HB2.out
  have h6 := k4.grown HB2.out
  have HLt := Lib.hid (show b < w.heap.size from k1.lt)
  obtain ⟨N, hN⟩ : ∃ N, N = xs.length := ⟨_, rfl⟩
  have HN := Lib.hid hN
  have HL := Lib.hid h3
  have HI := Lib.hid h6
  have HCp := Lib.hid (And.intro k2 k3)
  have HIw := Lib.hid k4
  have HLw := Lib.hid k1
  rw [← hN] at hn HL HLw HCp
  have x0 := Lies.cell (i := 0) HL.out rfl
  clear h2 h3 h6 k1 k2 k3 k4 hW1 hW2 hA1 hA2 al1 al2 sz1 hN
  unfold idxI at HC
  cases hi : idxV xs ys yk with
  | none =>
    rw [hi] at HC
    have HV := Lib.hid (show applyV xs ⟨y1, y2, y3, y4, yp, yl, yc, ys, yk, yv, yg, yi⟩ = (outV ⟨ys, yk, ⟨y3, y4, yv, yg, yi⟩⟩ (-1) xs 0 false, true) by
      unfold applyV sameC newC lookV idxI
      rw [hi]
      rfl)
    rw [HV.out]
    clear hi
    go_enter Tryz.func13, Tryz.ntmps13
    have al3 : Below W2.heap.size W2 (W2.alloc (.cells #[] 35)) := (Below.refl _ _).alloc (Nat.le_refl _) _
    have m1 := hl1.below al3
    have m2 := hl2.below al3
    have c0 := m2.cell (i := 0) rfl; have c1 := m2.cell (i := 1) rfl; have c2 := m2.cell (i := 2) rfl; have c3 := m2.cell (i := 3) rfl; have c4 := m2.cell (i := 4) rfl
    have e5 := m1.cell (i := 5) rfl; have e6 := m1.cell (i := 6) rfl
    have HD3 := Lib.hid al3
    clear hl1 hl2 m1 m2 al3
    go_wp2_with (rw [← HW.out, ← HA2.out, ← HA1.out]; go_at_call 42; refine HC.out.mono ?_; rintro e w2 ⟨rfl, hw⟩; rw [hw]; clear hw)
    have hG0 : (W2).heap.size + 1 = ((W2).alloc (.cells #[] 35)).heap.size := by simp
    obtain ⟨W5, hW5⟩ : ∃ W5, W5 = ((W2).alloc (.cells #[] 35)).alloc (.cells #[.string ys, .string yk, .int .i64 y3, .int .i64 y4, .string yv, .bool yg, .int .i64 yi] 35) := ⟨_, rfl⟩
    obtain ⟨G, hG⟩ : ∃ G, G = (W2).heap.size := ⟨_, rfl⟩
    have ha1 : Below (W2).heap.size (W2) ((W2).alloc (.cells #[] 35)) := (Below.refl _ _).alloc (Nat.le_refl _) _
    have ha2 : Below ((W2).alloc (.cells #[] 35)).heap.size ((W2).alloc (.cells #[] 35)) W5 := by rw [hW5]; exact (Below.refl _ _).alloc (Nat.le_refl _) _
    have ha5 : Below G W2 W5 := by rw [hG]; exact ha1.trans (ha2.mono ha1.size)
    obtain ⟨X, hX⟩ : ∃ X, X = (W2).heap.size + 1 := ⟨_, rfl⟩
    have HI0 := Lib.hid (show InvA W5 G X ⟨ys, yk, ⟨y3, y4, yv, yg, yi⟩⟩ W5 (.slice (some ⟨G, 0, none⟩) 0 0) [] from ⟨ownS_made (by rw [hG]; exact (ha2.block _ (by simp)).trans (heap_alloc_new _ _)) (Nat.le_refl _), by rw [hX, hG0, hW5]; exact Lies.new _ [.string ys, .string yk, .int .i64 y3, .int .i64 y4, .string yv, .bool yg, .int .i64 yi] _, fun k hk => by rw [hX, ← hG]; simp [Value.ownBlock] at hk; omega, Below.refl _ _, by rw [hG]; exact ha5.size⟩)
    have HB5 := Lib.hid (show Below w.heap.size w W5 from HB2.out.trans (by have := ha5; rw [hG] at this; exact this.mono HB2.out.size))
    have HGb := Lib.hid (show b < G ∧ w.heap.size ≤ G by rw [hG]; have := HB2.out.size; have := HLt.out; omega)
    have HGI := Lib.hid (show ∀ w', Below G W5 w' → RowsIn w' pp xs from fun w' hw => HI.out.grown (by rw [← hG]; exact ha5.trans hw))
    have HGL := Lib.hid (show ∀ w', Below G W5 w' → Lies w' b [.slice pp N c] 50 from fun w' hw => HL.out.below (by rw [← hG]; exact ha5.trans hw))
    rw [← hW5, ← hX, ← hG]
    clear ha1 ha2 ha5 hG0 hW5 hG hX
    go_loopg [7, 8, 10] N (fun gh s7 s8 si wx => ∃ (i : Nat) (A : List RowV) (d : Bool), i + gh = N ∧ si = .int .i64 (i : Int) ∧ s8 = .bool d ∧ Hid (InvA W5 G X ⟨ys, yk, ⟨y3, y4, yv, yg, yi⟩⟩ wx s7 A) ∧ Hid (A ++ outV ⟨ys, yk, ⟨y3, y4, yv, yg, yi⟩⟩ (-1) (xs.drop i) i d = outV ⟨ys, yk, ⟨y3, y4, yv, yg, yi⟩⟩ (-1) xs 0 false) ∧ Hid (A.length ≤ i + 1 ∧ (d = false → A.length ≤ i)))
    case atStart => exact ⟨0, [], false, by omega, by go_num, rfl, HI0, Lib.hid rfl, Lib.hid ⟨by simp, fun _ => by simp⟩⟩
    case round =>
      obtain ⟨i, A, d, hi, rfl, rfl, HV1, HT, HLn⟩ := hrel
      rename World => W6
      obtain ⟨p7, c7, hs7, _, _⟩ := HV1.out.1.shape
      subst hs7
      have x0 := Lies.cell (i := 0) (HGL.out W6 HV1.out.2.2.2.1) rfl
      have lx := HV1.out.2.1
      have z0 := lx.cell (i := 0) rfl; have z1 := lx.cell (i := 1) rfl; have z2 := lx.cell (i := 2) rfl; have z3 := lx.cell (i := 3) rfl; have z4 := lx.cell (i := 4) rfl; have z5 := lx.cell (i := 5) rfl; have z6 := lx.cell (i := 6) rfl
      by_cases hlt : i < N
      · have t1 : decide ((i : Int) < (N : Int)) = true := decide_eq_true (by omega)
        have t1' : decide (i < N) = true := decide_eq_true hlt
        have q0 : (i : Int) < (N : Int) := by omega
        obtain ⟨x, hx⟩ : ∃ x, xs[i]? = some x := ⟨_, List.getElem?_eq_getElem (by rw [← HN.out]; exact hlt)⟩
        obtain ⟨b1, o1, rfl⟩ := (HGI.out W6 HV1.out.2.2.2.1).addr (by rw [← HN.out]; omega)
        obtain ⟨d0, d1, d2, d3, d4, d5, d6⟩ := (HGI.out W6 HV1.out.2.2.2.1).look hx
        have HX := Lib.hid hx
        have HIn := Lib.hid (And.intro hi hlt)
        obtain ⟨xs1, xk, ⟨xt, xr, xv, xg, xl⟩⟩ := x
        simp only at d0 d1 d2 d3 d4 d5 d6
        clear hx hi hlt lx
        obtain ⟨kk, hkk⟩ : ∃ kk, kk = StoreMath.klt (RowV.r ⟨ys, yk, ⟨y3, y4, yv, yg, yi⟩⟩).k (RowV.r ⟨xs1, xk, ⟨xt, xr, xv, xg, xl⟩⟩).k := ⟨_, rfl⟩
        have hb0 := fun w => refBelow16 ⟨ys, yk, ⟨y3, y4, yv, yg, yi⟩⟩ ⟨xs1, xk, ⟨xt, xr, xv, xg, xl⟩⟩ w
        simp only [← hkk] at hb0
        simp only [RowV.val] at hb0
        have HBl := Lib.hid hb0
        have HK := Lib.hid hkk
        clear hb0 hkk
        go_wp2_with fail
        cases d with
        | true =>
          go_quiet (fail)
          obtain ⟨W7, hW7⟩ : ∃ W7, W7 = W6.drewN nq := ⟨_, rfl⟩
          have HV7 := Lib.hid (HV1.out.below (show Below W6.heap.size W6 W7 by rw [hW7]; exact below_drewN _ (Below.refl _ _)))
          rw [← hW7]
          clear hW7 x0 z0 z1 z2 z3 z4 z5 z6 d0 d1 d2 d3 d4 d5 d6
          have x0 := Lies.cell (i := 0) (HGL.out W7 HV7.out.2.2.2.1) rfl
          have lx := HV7.out.2.1
          have z0 := lx.cell (i := 0) rfl
          have z1 := lx.cell (i := 1) rfl
          have z2 := lx.cell (i := 2) rfl
          have z3 := lx.cell (i := 3) rfl
          have z4 := lx.cell (i := 4) rfl
          have z5 := lx.cell (i := 5) rfl
          have z6 := lx.cell (i := 6) rfl
          obtain ⟨d0, d1, d2, d3, d4, d5, d6⟩ := (HGI.out W7 HV7.out.2.2.2.1).look HX.out
          simp only at d0 d1 d2 d3 d4 d5 d6
          clear lx
          go_wp2_with (at_builtin; refine app_inv rfl _ _ rfl W5 G X ⟨ys, yk, ⟨y3, y4, yv, yg, yi⟩⟩ _ A ⟨xs1, xk, ⟨xt, xr, xv, xg, xl⟩⟩ rfl (HV7.out.below ((Below.refl _ _).alloc (Nat.le_refl _) _)) W7.heap.size 1 rfl (one_rows (Lies.new W7 (RowV.cells ⟨xs1, xk, ⟨xt, xr, xv, xg, xl⟩⟩) _)) (by have := HIn.out; have := HLn.out; omega) ?_; intro v_w8 w8 h_w8; have HV8 := Lib.hid h_w8; clear h_w8)
          go_roundg (N - (i + 1))
          case measure => have := HIn.out; omega
          case rel => exact ⟨i + 1, _, true, by have := HIn.out; omega, by go_num, rfl, HV8, Lib.hid (out_past HX.out (by omega) rfl HT.out), Lib.hid ⟨by have := HLn.out; rw [List.length_append]; simp only [List.length_cons, List.length_nil]; omega, fun h => by simp at h⟩⟩
        | false =>
          have hz1 : Below W6.heap.size W6 W6 ∧ W6.cell? ⟨b, 0, none⟩ = some (.slice (some ⟨b1, o1, none⟩) N c) ∧ W6.cell? ⟨X, 0, none⟩ = some (.string ys) ∧ W6.cell? ⟨X, 1, none⟩ = some (.string yk) ∧ W6.cell? ⟨X, 2, none⟩ = some (.int .i64 y3) ∧ W6.cell? ⟨X, 3, none⟩ = some (.int .i64 y4) ∧ W6.cell? ⟨X, 4, none⟩ = some (.string yv) ∧ W6.cell? ⟨X, 5, none⟩ = some (.bool yg) ∧ W6.cell? ⟨X, 6, none⟩ = some (.int .i64 yi) ∧ W6.cell? ⟨b1, o1 + i * 7, none⟩ = some (.string xs1) ∧ W6.cell? ⟨b1, o1 + i * 7 + 1, none⟩ = some (.string xk) ∧ W6.cell? ⟨b1, o1 + i * 7 + 2, none⟩ = some (.int .i64 xt) ∧ W6.cell? ⟨b1, o1 + i * 7 + 3, none⟩ = some (.int .i64 xr) ∧ W6.cell? ⟨b1, o1 + i * 7 + 4, none⟩ = some (.string xv) ∧ W6.cell? ⟨b1, o1 + i * 7 + 5, none⟩ = some (.bool xg) ∧ W6.cell? ⟨b1, o1 + i * 7 + 6, none⟩ = some (.int .i64 xl) := ⟨Below.refl _ _, x0, z0, z1, z2, z3, z4, z5, z6, d0, d1, d2, d3, d4, d5, d6⟩
          go_region_held3 (fun w' => Below W6.heap.size W6 w' ∧ w'.cell? ⟨b, 0, none⟩ = some (.slice (some ⟨b1, o1, none⟩) N c) ∧ w'.cell? ⟨X, 0, none⟩ = some (.string ys) ∧ w'.cell? ⟨X, 1, none⟩ = some (.string yk) ∧ w'.cell? ⟨X, 2, none⟩ = some (.int .i64 y3) ∧ w'.cell? ⟨X, 3, none⟩ = some (.int .i64 y4) ∧ w'.cell? ⟨X, 4, none⟩ = some (.string yv) ∧ w'.cell? ⟨X, 5, none⟩ = some (.bool yg) ∧ w'.cell? ⟨X, 6, none⟩ = some (.int .i64 yi) ∧ w'.cell? ⟨b1, o1 + i * 7, none⟩ = some (.string xs1) ∧ w'.cell? ⟨b1, o1 + i * 7 + 1, none⟩ = some (.string xk) ∧ w'.cell? ⟨b1, o1 + i * 7 + 2, none⟩ = some (.int .i64 xt) ∧ w'.cell? ⟨b1, o1 + i * 7 + 3, none⟩ = some (.int .i64 xr) ∧ w'.cell? ⟨b1, o1 + i * 7 + 4, none⟩ = some (.string xv) ∧ w'.cell? ⟨b1, o1 + i * 7 + 5, none⟩ = some (.bool xg) ∧ w'.cell? ⟨b1, o1 + i * 7 + 6, none⟩ = some (.int .i64 xl))
            (first | (refine keepApp ?_ hbb; assumption) | exact keepApp (by assumption) (Below.refl _ _).drew | exact keepApp hz1 (Below.refl _ _).drew)
            (first | (go_at_call 21; refine (HBl.out _).mono ?_; rintro e wn ⟨rfl, hbb⟩))
          have hz2 : Below W6.heap.size W6 wn ∧ wn.cell? ⟨b, 0, none⟩ = some (.slice (some ⟨b1, o1, none⟩) N c) ∧ wn.cell? ⟨X, 0, none⟩ = some (.string ys) ∧ wn.cell? ⟨X, 1, none⟩ = some (.string yk) ∧ wn.cell? ⟨X, 2, none⟩ = some (.int .i64 y3) ∧ wn.cell? ⟨X, 3, none⟩ = some (.int .i64 y4) ∧ wn.cell? ⟨X, 4, none⟩ = some (.string yv) ∧ wn.cell? ⟨X, 5, none⟩ = some (.bool yg) ∧ wn.cell? ⟨X, 6, none⟩ = some (.int .i64 yi) ∧ wn.cell? ⟨b1, o1 + i * 7, none⟩ = some (.string xs1) ∧ wn.cell? ⟨b1, o1 + i * 7 + 1, none⟩ = some (.string xk) ∧ wn.cell? ⟨b1, o1 + i * 7 + 2, none⟩ = some (.int .i64 xt) ∧ wn.cell? ⟨b1, o1 + i * 7 + 3, none⟩ = some (.int .i64 xr) ∧ wn.cell? ⟨b1, o1 + i * 7 + 4, none⟩ = some (.string xv) ∧ wn.cell? ⟨b1, o1 + i * 7 + 5, none⟩ = some (.bool xg) ∧ wn.cell? ⟨b1, o1 + i * 7 + 6, none⟩ = some (.int .i64 xl) := by assumption
          have HV7 := Lib.hid (HV1.out.below hz2.1)
          clear hz1 hz2 x0 z0 z1 z2 z3 z4 z5 z6 d0 d1 d2 d3 d4 d5 d6
          rename World => W7
          have x0 := Lies.cell (i := 0) (HGL.out W7 HV7.out.2.2.2.1) rfl
          have lx := HV7.out.2.1
          have z0 := lx.cell (i := 0) rfl
          have z1 := lx.cell (i := 1) rfl
          have z2 := lx.cell (i := 2) rfl
          have z3 := lx.cell (i := 3) rfl
          have z4 := lx.cell (i := 4) rfl
          have z5 := lx.cell (i := 5) rfl
          have z6 := lx.cell (i := 6) rfl
          obtain ⟨d0, d1, d2, d3, d4, d5, d6⟩ := (HGI.out W7 HV7.out.2.2.2.1).look HX.out
          simp only at d0 d1 d2 d3 d4 d5 d6
          clear lx
          cases kk with
          | true =>
            go_wp2_with (first | (at_builtin; refine app_inv rfl _ _ rfl W5 G X ⟨ys, yk, ⟨y3, y4, yv, yg, yi⟩⟩ _ A ⟨ys, yk, ⟨y3, y4, yv, yg, yi⟩⟩ rfl (HV7.out.below ((Below.refl _ _).alloc (Nat.le_refl _) _)) W7.heap.size 1 rfl (one_rows (Lies.new W7 (RowV.cells ⟨ys, yk, ⟨y3, y4, yv, yg, yi⟩⟩) _)) (by have := HIn.out; have := HLn.out; omega) ?_; intro v_w8 w8 h_w8; have HV8 := Lib.hid h_w8; clear h_w8; have x0 := Lies.cell (i := 0) (HGL.out w8 HV8.out.2.2.2.1) rfl; have lx := HV8.out.2.1; have z0 := lx.cell (i := 0) rfl; have z1 := lx.cell (i := 1) rfl; have z2 := lx.cell (i := 2) rfl; have z3 := lx.cell (i := 3) rfl; have z4 := lx.cell (i := 4) rfl; have z5 := lx.cell (i := 5) rfl; have z6 := lx.cell (i := 6) rfl; obtain ⟨d0, d1, d2, d3, d4, d5, d6⟩ := (HGI.out w8 HV8.out.2.2.2.1).look HX.out; simp only at d0 d1 d2 d3 d4 d5 d6; clear lx) | (at_builtin; refine app_inv rfl _ _ rfl W5 G X ⟨ys, yk, ⟨y3, y4, yv, yg, yi⟩⟩ _ (A ++ [⟨ys, yk, ⟨y3, y4, yv, yg, yi⟩⟩]) ⟨xs1, xk, ⟨xt, xr, xv, xg, xl⟩⟩ rfl (HV8.out.below ((Below.refl _ _).alloc (Nat.le_refl _) _)) w8.heap.size 1 rfl (one_rows (Lies.new w8 (RowV.cells ⟨xs1, xk, ⟨xt, xr, xv, xg, xl⟩⟩) _)) (by have := HIn.out; have := HLn.out.2 (by simp); rw [List.length_append]; simp only [List.length_cons, List.length_nil]; omega) ?_; intro v_w9 w9 h_w9; have HV9 := Lib.hid h_w9; clear h_w9))
            go_roundg (N - (i + 1))
            case measure => have := HIn.out; omega
            case rel => exact ⟨i + 1, _, true, by have := HIn.out; omega, by go_num, rfl, HV9, Lib.hid (out_ahead HX.out (by omega) HK.out.symm HT.out), Lib.hid ⟨by have := HLn.out.2 (by simp); simp only [List.length_append, List.length_cons, List.length_nil]; omega, fun h => by simp at h⟩⟩
          | false =>
            go_wp2_with (at_builtin; refine app_inv rfl _ _ rfl W5 G X ⟨ys, yk, ⟨y3, y4, yv, yg, yi⟩⟩ _ A ⟨xs1, xk, ⟨xt, xr, xv, xg, xl⟩⟩ rfl (HV7.out.below ((Below.refl _ _).alloc (Nat.le_refl _) _)) W7.heap.size 1 rfl (one_rows (Lies.new W7 (RowV.cells ⟨xs1, xk, ⟨xt, xr, xv, xg, xl⟩⟩) _)) (by have := HIn.out; have := HLn.out; omega) ?_; intro v_w8 w8 h_w8; have HV8 := Lib.hid h_w8; clear h_w8)
            go_roundg (N - (i + 1))
            case measure => have := HIn.out; omega
            case rel => exact ⟨i + 1, _, false, by have := HIn.out; omega, by go_num, rfl, HV8, Lib.hid (out_past HX.out (by omega) (by rw [← HK.out]; rfl) HT.out), Lib.hid ⟨by have := HLn.out; simp only [List.length_append, List.length_cons, List.length_nil]; omega, fun _ => by have := HLn.out.2 (by simp); simp only [List.length_append, List.length_cons, List.length_nil]; omega⟩⟩
      · have t1 : decide ((i : Int) < (N : Int)) = false := decide_eq_false (by omega)
        have t1' : decide (i < N) = false := decide_eq_false hlt
        have HTe := Lib.hid (out_end (by rw [← HN.out]; omega) HT.out)
        have HIn := Lib.hid hi
        have hL6 := HGL.out W6 HV1.out.2.2.2.1
        have f0 := Lies.free hL6 0
        clear hlt hi hL6
        cases d with
        | true =>
          have hT : A = _ := (List.append_nil A).symm.trans HTe.out
          have HF := Lib.hid (fin16 (xs := xs) HV1.out (HGL.out W6 HV1.out.2.2.2.1) HGb.out.1 HGb.out.2 HB5.out)
          have HTA := Lib.hid hT
          clear hT lx
          go_wp2
          go_ret
          refine ⟨rfl, ?_⟩
          show RefStoX _ _ b xs (outV ⟨ys, yk, ⟨y3, y4, yv, yg, yi⟩⟩ (-1) xs 0 false) ∧ _
          rw [← HTA.out]
          exact HF.out
        | false =>
          have HTA := Lib.hid (show A ++ [⟨ys, yk, ⟨y3, y4, yv, yg, yi⟩⟩] = _ from HTe.out)
          clear lx
          go_wp2_with (at_builtin; refine app_inv rfl _ _ rfl W5 G X ⟨ys, yk, ⟨y3, y4, yv, yg, yi⟩⟩ _ A ⟨ys, yk, ⟨y3, y4, yv, yg, yi⟩⟩ rfl (HV1.out.below ((Below.refl _ _).alloc (Nat.le_refl _) _)) W6.heap.size 1 rfl (one_rows (Lies.new W6 (RowV.cells ⟨ys, yk, ⟨y3, y4, yv, yg, yi⟩⟩) _)) (by have := HIn.out; have := HLn.out.2 (by simp); omega) ?_; intro v_w8 w8 h_w8; have HV8 := Lib.hid h_w8; clear h_w8; obtain ⟨p8, c8, hs8, _, _⟩ := HV8.out.1.shape; subst hs8; have x0 := Lies.cell (i := 0) (HGL.out w8 HV8.out.2.2.2.1) rfl; have f0 := Lies.free (HGL.out w8 HV8.out.2.2.2.1) 0)
          have HF := Lib.hid (fin16 (xs := xs) HV8.out (HGL.out w8 HV8.out.2.2.2.1) HGb.out.1 HGb.out.2 HB5.out)
          go_ret
          refine ⟨rfl, ?_⟩
          show RefStoX _ _ b xs (outV ⟨ys, yk, ⟨y3, y4, yv, yg, yi⟩⟩ (-1) xs 0 false) ∧ _
          rw [← HTA.out]
          have hf := HF.out
          rw [List.length_append] at hf
          exact hf
  | some j =>
    rw [hi] at HC
    obtain ⟨x, hx, hxs, hxk⟩ := idx_lt hi
    obtain ⟨md, hmd⟩ : ∃ md, md = mergeV [x.cell, ⟨y3, y4, yv, yg, yi⟩] := ⟨_, rfl⟩
    have HV := Lib.hid (show applyV xs ⟨y1, y2, y3, y4, yp, yl, yc, ys, yk, yv, yg, yi⟩ = if md = x.cell then (xs, false) else (outV ⟨ys, yk, md⟩ (j : Int) xs 0 false, true) by
      have hl : lookV xs ys yk = some x.cell := by unfold lookV; rw [hi]; simp [hx]
      have hn2 : newC xs ⟨y1, y2, y3, y4, yp, yl, yc, ys, yk, yv, yg, yi⟩ = md := by unfold newC; simp only; rw [hl, hmd]; rfl
      unfold applyV sameC idxI
      rw [hn2]
      simp only
      rw [hl, hi]
      by_cases h : md = x.cell
      · simp only
        rw [if_pos (decide_eq_true h), if_pos h]
      · simp only
        rw [if_neg (by rw [decide_eq_false h]; decide), if_neg h])
    have HM := Lib.hid (fun (g : Nat) (w : World) (h : Lies w g (cells10 x.cell ⟨y3, y4, yv, yg, yi⟩) 33) => show Calls Tryz.prog 43 #[.slice (some ⟨g, 0, none⟩) 2 2] w (fun e w' => e = .returned md.val ∧ Below w.heap.size w w') by
      rw [hmd]
      exact refMerge15 _ 2 [x.cell, ⟨y3, y4, yv, yg, yi⟩] w (regs_two h) (by show 2 ≤ 1000; omega))
    have q0 : (j : Int) < (N : Int) := by have := (List.getElem?_eq_some_iff.1 hx).1; have := HN.out; omega
    have t0 : decide ((0 : Int) ≤ (j : Int)) = true := decide_eq_true (by omega)
    obtain ⟨b1, o1, hpp⟩ := HI.out.addr (by have := HN.out; omega)
    have h6 := HI.out
    rw [hpp] at h6 x0
    obtain ⟨d0, d1, d2, d3, d4, d5, d6⟩ := h6.look hx
    have HX0 := Lib.hid hx
    have HPP := Lib.hid hpp
    have HCE := Lib.hid (fun w => eql_rc md x.cell w)
    obtain ⟨xs1, xk, ⟨xt, xr, xv, xg, xl⟩⟩ := x
    obtain ⟨mt, mr, mv, mg, ml⟩ := md
    simp only [RegV.val] at d0 d1 d2 d3 d4 d5 d6 HM HV hxs hxk HCE
    clear hi hmd hx d0 d1 h6 hpp
    by_cases hmx : (⟨mt, mr, mv, mg, ml⟩ : RegV) = ⟨xt, xr, xv, xg, xl⟩
    · have HV' := Lib.hid (HV.out.trans (if_pos hmx))
      rw [HV'.out]
      have q1 := HCE.out
      simp only [decide_eq_true hmx] at q1
      clear hmx HV HV'
      go_enter Tryz.func13, Tryz.ntmps13
      have c0 := HL2.out.cell (i := 0) rfl; have c1 := HL2.out.cell (i := 1) rfl; have c2 := HL2.out.cell (i := 2) rfl; have c3 := HL2.out.cell (i := 3) rfl; have c4 := HL2.out.cell (i := 4) rfl
      have e5 := HL1.out.cell (i := 5) rfl; have e6 := HL1.out.cell (i := 6) rfl
      go_wp2_with (rw [← HW.out, ← HA2.out, ← HA1.out]; go_at_call 42; refine HC.out.mono ?_; rintro e w2 ⟨rfl, hw⟩; rw [hw]; clear hw)
      go_still_tail 9, (by kernel_rfl)
      change wpList _ _ _ _ _ W2.drew
      have HBd := Lib.hid (fun (v : List Value) => show Below W2.heap.size W2 (W2.drew.alloc (.cells v.toArray 33)) from ((Below.refl _ _).drew).alloc (Nat.le_refl _) _)
      have HLd := Lib.hid (fun (v : List Value) => Lies.new W2.drew v 33)
      clear x0 c0 c1 c2 c3 c4 e5 e6 d2 d3 d4 d5 d6
      go_wp2_with (go_at_call 43; refine (HM.out _ _ (HLd.out _)).mono ?_; rintro e w4 ⟨rfl, hb⟩; have HB4 := Lib.hid ((HBd.out _).trans (hb.mono (HBd.out _).size)); clear hb; have m2 := HL2.out.below HB4.out; have c0 := m2.cell (i := 0) rfl; have c1 := m2.cell (i := 1) rfl; have c2 := m2.cell (i := 2) rfl; have c3 := m2.cell (i := 3) rfl; have c4 := m2.cell (i := 4) rfl; have f0 := m2.free 0; have f1 := m2.free 1; have f2 := m2.free 2; have f3 := m2.free 3; have f4 := m2.free 4; clear m2)
      rename World => w4
      obtain ⟨W9, hW9⟩ : ∃ W9, W9 = ((((w4.setCell ⟨A2, 0, none⟩ (.int .i64 mt)).setCell ⟨A2, 1, none⟩ (.int .i64 mr)).setCell ⟨A2, 2, none⟩ (.string mv)).setCell ⟨A2, 3, none⟩ (.bool mg)).setCell ⟨A2, 4, none⟩ (.int .i64 ml) := ⟨_, rfl⟩
      have hs9 : Lies W9 A2 [.int .i64 mt, .int .i64 mr, .string mv, .bool mg, .int .i64 ml] 33 := by rw [hW9]; exact (((((HL2.out.below HB4.out).set 0 (.int .i64 mt)).set 1 (.int .i64 mr)).set 2 (.string mv)).set 3 (.bool mg)).set 4 (.int .i64 ml)
      have hb9 : But A2 w4 W9 := by rw [hW9]; exact ((((But.set A2 0 w4 _).trans (But.set A2 1 _ _)).trans (But.set A2 2 _ _)).trans (But.set A2 3 _ _)).trans (But.set A2 4 _ _)
      rw [← hW9]
      have hB49 : Below w.heap.size w W9 := by
        have g1 := HB2.out.trans (HB4.out.mono HB2.out.size)
        have g2 := HL2.out.below HB4.out
        exact g1.trans ((hb9.below (Nat.le_of_lt g2.lt)).mono (by rw [HA2.out]; omega))
      have hA9 := (HL1.out.below HB4.out).but hb9 (by rw [HA1.out, HA2.out]; omega)
      have hl9 := HLw.out.below hB49
      have hi9 := HIw.out.grown hB49
      have x0 := hl9.cell (i := 0) rfl
      have h6 := hi9
      rw [HPP.out] at h6 x0
      obtain ⟨_, _, d2, d3, d4, d5, d6⟩ := h6.look HX0.out
      simp only at d2 d3 d4 d5 d6
      have c0 := hs9.cell (i := 0) rfl; have c1 := hs9.cell (i := 1) rfl; have c2 := hs9.cell (i := 2) rfl; have c3 := hs9.cell (i := 3) rfl; have c4 := hs9.cell (i := 4) rfl
      have HS9 := Lib.hid hs9
      have HBB := Lib.hid hB49
      have HAA := Lib.hid hA9
      have HLL := Lib.hid hl9
      have HII := Lib.hid hi9
      clear hs9 hb9 hB49 hA9 hl9 hi9 h6 hW9 f0 f1 f2 f3 f4
      go_quiet (fail)
      obtain ⟨W10, hW10⟩ : ∃ W10, W10 = W9.drewN nq := ⟨_, rfl⟩
      have hb10 : Below W9.heap.size W9 W10 := by rw [hW10]; exact below_drewN _ (Below.refl _ _)
      rw [← hW10]
      have HM9 := Lib.hid (HS9.out.below hb10)
      have HB9 := Lib.hid (HBB.out.trans (hb10.mono HBB.out.size))
      have HA9 := Lib.hid (HAA.out.below hb10)
      have HL9 := Lib.hid (HLL.out.below hb10)
      have HI9 := Lib.hid (HII.out.grown hb10)
      clear hW10 hb10 x0 c0 c1 c2 c3 c4 d2 d3 d4 d5 d6
      
      go_wp2
      go_ret
      exact ⟨rfl, ⟨pp, c, by rw [← HN.out]; exact HL9.out, by rw [← HN.out]; exact HCp.out.1, HCp.out.2, HI9.out, .inr ⟨c, by rw [← HN.out]; exact HLw.out⟩⟩, But.of HB9.out⟩
    · have HV' := Lib.hid (HV.out.trans (if_neg hmx))
      rw [HV'.out]
      have q1 := HCE.out
      simp only [decide_eq_false hmx] at q1
      clear hmx HV HV'
      go_enter Tryz.func13, Tryz.ntmps13
      have c0 := HL2.out.cell (i := 0) rfl; have c1 := HL2.out.cell (i := 1) rfl; have c2 := HL2.out.cell (i := 2) rfl; have c3 := HL2.out.cell (i := 3) rfl; have c4 := HL2.out.cell (i := 4) rfl
      have e5 := HL1.out.cell (i := 5) rfl; have e6 := HL1.out.cell (i := 6) rfl
      go_wp2_with (rw [← HW.out, ← HA2.out, ← HA1.out]; go_at_call 42; refine HC.out.mono ?_; rintro e w2 ⟨rfl, hw⟩; rw [hw]; clear hw)
      go_still_tail 9, (by kernel_rfl)
      change wpList _ _ _ _ _ W2.drew
      have HBd := Lib.hid (fun (v : List Value) => show Below W2.heap.size W2 (W2.drew.alloc (.cells v.toArray 33)) from ((Below.refl _ _).drew).alloc (Nat.le_refl _) _)
      have HLd := Lib.hid (fun (v : List Value) => Lies.new W2.drew v 33)
      clear x0 c0 c1 c2 c3 c4 e5 e6 d2 d3 d4 d5 d6
      go_wp2_with (go_at_call 43; refine (HM.out _ _ (HLd.out _)).mono ?_; rintro e w4 ⟨rfl, hb⟩; have HB4 := Lib.hid ((HBd.out _).trans (hb.mono (HBd.out _).size)); clear hb; have m2 := HL2.out.below HB4.out; have c0 := m2.cell (i := 0) rfl; have c1 := m2.cell (i := 1) rfl; have c2 := m2.cell (i := 2) rfl; have c3 := m2.cell (i := 3) rfl; have c4 := m2.cell (i := 4) rfl; have f0 := m2.free 0; have f1 := m2.free 1; have f2 := m2.free 2; have f3 := m2.free 3; have f4 := m2.free 4; clear m2)
      rename World => w4
      obtain ⟨W9, hW9⟩ : ∃ W9, W9 = ((((w4.setCell ⟨A2, 0, none⟩ (.int .i64 mt)).setCell ⟨A2, 1, none⟩ (.int .i64 mr)).setCell ⟨A2, 2, none⟩ (.string mv)).setCell ⟨A2, 3, none⟩ (.bool mg)).setCell ⟨A2, 4, none⟩ (.int .i64 ml) := ⟨_, rfl⟩
      have hs9 : Lies W9 A2 [.int .i64 mt, .int .i64 mr, .string mv, .bool mg, .int .i64 ml] 33 := by rw [hW9]; exact (((((HL2.out.below HB4.out).set 0 (.int .i64 mt)).set 1 (.int .i64 mr)).set 2 (.string mv)).set 3 (.bool mg)).set 4 (.int .i64 ml)
      have hb9 : But A2 w4 W9 := by rw [hW9]; exact ((((But.set A2 0 w4 _).trans (But.set A2 1 _ _)).trans (But.set A2 2 _ _)).trans (But.set A2 3 _ _)).trans (But.set A2 4 _ _)
      rw [← hW9]
      have hB49 : Below w.heap.size w W9 := by
        have g1 := HB2.out.trans (HB4.out.mono HB2.out.size)
        have g2 := HL2.out.below HB4.out
        exact g1.trans ((hb9.below (Nat.le_of_lt g2.lt)).mono (by rw [HA2.out]; omega))
      have hA9 := (HL1.out.below HB4.out).but hb9 (by rw [HA1.out, HA2.out]; omega)
      have hl9 := HLw.out.below hB49
      have hi9 := HIw.out.grown hB49
      have x0 := hl9.cell (i := 0) rfl
      have h6 := hi9
      rw [HPP.out] at h6 x0
      obtain ⟨_, _, d2, d3, d4, d5, d6⟩ := h6.look HX0.out
      simp only at d2 d3 d4 d5 d6
      have c0 := hs9.cell (i := 0) rfl; have c1 := hs9.cell (i := 1) rfl; have c2 := hs9.cell (i := 2) rfl; have c3 := hs9.cell (i := 3) rfl; have c4 := hs9.cell (i := 4) rfl
      have HS9 := Lib.hid hs9
      have HBB := Lib.hid hB49
      have HAA := Lib.hid hA9
      have HLL := Lib.hid hl9
      have HII := Lib.hid hi9
      clear hs9 hb9 hB49 hA9 hl9 hi9 h6 hW9 f0 f1 f2 f3 f4
      go_quiet (fail)
      obtain ⟨W10, hW10⟩ : ∃ W10, W10 = W9.drewN nq := ⟨_, rfl⟩
      have hb10 : Below W9.heap.size W9 W10 := by rw [hW10]; exact below_drewN _ (Below.refl _ _)
      rw [← hW10]
      have HM9 := Lib.hid (HS9.out.below hb10)
      have HB9 := Lib.hid (HBB.out.trans (hb10.mono HBB.out.size))
      have HA9 := Lib.hid (HAA.out.below hb10)
      have HL9 := Lib.hid (HLL.out.below hb10)
      have HI9 := Lib.hid (HII.out.grown hb10)
      clear hW10 hb10 x0 c0 c1 c2 c3 c4 d2 d3 d4 d5 d6
      
      have al3 : Below W10.heap.size W10 (W10.alloc (.cells #[] 35)) := (Below.refl _ _).alloc (Nat.le_refl _) _
      have m1 := HA9.out.below al3
      have m2 := HM9.out.below al3
      have c0 := m2.cell (i := 0) rfl; have c1 := m2.cell (i := 1) rfl; have c2 := m2.cell (i := 2) rfl; have c3 := m2.cell (i := 3) rfl; have c4 := m2.cell (i := 4) rfl
      have e5 := m1.cell (i := 5) rfl; have e6 := m1.cell (i := 6) rfl
      clear m1 m2 al3
      go_wp2_with fail
      have hG0 : (W10).heap.size + 1 = ((W10).alloc (.cells #[] 35)).heap.size := by simp
      obtain ⟨W5, hW5⟩ : ∃ W5, W5 = ((W10).alloc (.cells #[] 35)).alloc (.cells #[.string ys, .string yk, .int .i64 mt, .int .i64 mr, .string mv, .bool mg, .int .i64 ml] 35) := ⟨_, rfl⟩
      obtain ⟨G, hG⟩ : ∃ G, G = (W10).heap.size := ⟨_, rfl⟩
      have ha1 : Below (W10).heap.size (W10) ((W10).alloc (.cells #[] 35)) := (Below.refl _ _).alloc (Nat.le_refl _) _
      have ha2 : Below ((W10).alloc (.cells #[] 35)).heap.size ((W10).alloc (.cells #[] 35)) W5 := by rw [hW5]; exact (Below.refl _ _).alloc (Nat.le_refl _) _
      have ha5 : Below G W10 W5 := by rw [hG]; exact ha1.trans (ha2.mono ha1.size)
      obtain ⟨X, hX⟩ : ∃ X, X = (W10).heap.size + 1 := ⟨_, rfl⟩
      have HI0 := Lib.hid (show InvA W5 G X ⟨ys, yk, ⟨mt, mr, mv, mg, ml⟩⟩ W5 (.slice (some ⟨G, 0, none⟩) 0 0) [] from ⟨ownS_made (by rw [hG]; exact (ha2.block _ (by simp)).trans (heap_alloc_new _ _)) (Nat.le_refl _), by rw [hX, hG0, hW5]; exact Lies.new _ [.string ys, .string yk, .int .i64 mt, .int .i64 mr, .string mv, .bool mg, .int .i64 ml] _, fun k hk => by rw [hX, ← hG]; simp [Value.ownBlock] at hk; omega, Below.refl _ _, by rw [hG]; exact ha5.size⟩)
      have HB5 := Lib.hid (show Below w.heap.size w W5 from HB9.out.trans (by have := ha5; rw [hG] at this; exact this.mono HB9.out.size))
      have HGb := Lib.hid (show b < G ∧ w.heap.size ≤ G by rw [hG]; have := HB9.out.size; have := HLt.out; omega)
      have HGI := Lib.hid (show ∀ w', Below G W5 w' → RowsIn w' pp xs from fun w' hw => HI9.out.grown (by rw [← hG]; exact ha5.trans hw))
      have HGL := Lib.hid (show ∀ w', Below G W5 w' → Lies w' b [.slice pp N c] 50 from fun w' hw => HL9.out.below (by rw [← hG]; exact ha5.trans hw))
      rw [← hW5, ← hX, ← hG]
      clear ha1 ha2 ha5 hG0 hW5 hG hX
      go_loopg [7, 8, 10] N (fun gh s7 s8 si wx => ∃ (i : Nat) (A : List RowV) (d : Bool), i + gh = N ∧ si = .int .i64 (i : Int) ∧ s8 = .bool d ∧ Hid (InvA W5 G X ⟨ys, yk, ⟨mt, mr, mv, mg, ml⟩⟩ wx s7 A) ∧ Hid (A ++ outV ⟨ys, yk, ⟨mt, mr, mv, mg, ml⟩⟩ (j : Int) (xs.drop i) i d = outV ⟨ys, yk, ⟨mt, mr, mv, mg, ml⟩⟩ (j : Int) xs 0 false) ∧ Hid (A.length ≤ i + 1 ∧ (d = false → A.length ≤ i)))
      case atStart => exact ⟨0, [], false, by omega, by go_num, rfl, HI0, Lib.hid rfl, Lib.hid ⟨by simp, fun _ => by simp⟩⟩
      case round =>
        obtain ⟨i, A, d, hi, rfl, rfl, HV1, HT, HLn⟩ := hrel
        rename World => W6
        obtain ⟨p7, c7, hs7, _, _⟩ := HV1.out.1.shape
        subst hs7
        have x0 := Lies.cell (i := 0) (HGL.out W6 HV1.out.2.2.2.1) rfl
        have lx := HV1.out.2.1
        have z0 := lx.cell (i := 0) rfl; have z1 := lx.cell (i := 1) rfl; have z2 := lx.cell (i := 2) rfl; have z3 := lx.cell (i := 3) rfl; have z4 := lx.cell (i := 4) rfl; have z5 := lx.cell (i := 5) rfl; have z6 := lx.cell (i := 6) rfl
        by_cases hlt : i < N
        · have t1 : decide ((i : Int) < (N : Int)) = true := decide_eq_true (by omega)
          have t1' : decide (i < N) = true := decide_eq_true hlt
          have q0 : (i : Int) < (N : Int) := by omega
          obtain ⟨x, hx⟩ : ∃ x, xs[i]? = some x := ⟨_, List.getElem?_eq_getElem (by rw [← HN.out]; exact hlt)⟩
          obtain ⟨b1, o1, rfl⟩ := (HGI.out W6 HV1.out.2.2.2.1).addr (by rw [← HN.out]; omega)
          obtain ⟨d0, d1, d2, d3, d4, d5, d6⟩ := (HGI.out W6 HV1.out.2.2.2.1).look hx
          have HX := Lib.hid hx
          have HIn := Lib.hid (And.intro hi hlt)
          obtain ⟨xs1, xk, ⟨xt, xr, xv, xg, xl⟩⟩ := x
          simp only at d0 d1 d2 d3 d4 d5 d6
          clear hx hi hlt lx
          by_cases hij : i = j
          · have g1 : ((i : Int) == (j : Int)) = true := by rw [beq_iff_eq]; omega
            have g2 : (i == j) = true := by rw [beq_iff_eq]; exact hij
            have g3 : decide ((i : Int) = (j : Int)) = true := decide_eq_true (by omega)
            have g4 : decide (i = j) = true := decide_eq_true hij
            go_wp2_with (at_builtin; refine app_inv rfl _ _ rfl W5 G X ⟨ys, yk, ⟨mt, mr, mv, mg, ml⟩⟩ _ A ⟨ys, yk, ⟨mt, mr, mv, mg, ml⟩⟩ rfl (HV1.out.below ((Below.refl _ _).alloc (Nat.le_refl _) _)) W6.heap.size 1 rfl (one_rows (Lies.new W6 (RowV.cells ⟨ys, yk, ⟨mt, mr, mv, mg, ml⟩⟩) _)) (by have := HIn.out; have := HLn.out; omega) ?_; intro v_w8 w8 h_w8; have HV8 := Lib.hid h_w8; clear h_w8)
            go_roundg (N - (i + 1))
            case measure => have := HIn.out; omega
            case rel => exact ⟨i + 1, _, true, by have := HIn.out; omega, by go_num, rfl, HV8, Lib.hid (out_at HX.out (by omega) HT.out), Lib.hid ⟨by have := HLn.out; simp only [List.length_append, List.length_cons, List.length_nil]; omega, fun h => by simp at h⟩⟩
          have g1 : ((i : Int) == (j : Int)) = false := by rw [beq_eq_false_iff_ne]; omega
          have g2 : (i == j) = false := by rw [beq_eq_false_iff_ne]; exact hij
          have g3 : decide ((i : Int) = (j : Int)) = false := decide_eq_false (by omega)
          have g4 : decide (i = j) = false := decide_eq_false hij
          obtain ⟨kk, hkk⟩ : ∃ kk, kk = StoreMath.klt (RowV.r ⟨ys, yk, ⟨mt, mr, mv, mg, ml⟩⟩).k (RowV.r ⟨xs1, xk, ⟨xt, xr, xv, xg, xl⟩⟩).k := ⟨_, rfl⟩
          have hb0 := fun w => refBelow16 ⟨ys, yk, ⟨mt, mr, mv, mg, ml⟩⟩ ⟨xs1, xk, ⟨xt, xr, xv, xg, xl⟩⟩ w
          simp only [← hkk] at hb0
          simp only [RowV.val] at hb0
          have HBl := Lib.hid hb0
          have HK := Lib.hid hkk
          clear hb0 hkk
          go_wp2_with fail
          cases d with
          | true =>
            go_quiet (fail)
            obtain ⟨W7, hW7⟩ : ∃ W7, W7 = W6.drewN nq := ⟨_, rfl⟩
            have HV7 := Lib.hid (HV1.out.below (show Below W6.heap.size W6 W7 by rw [hW7]; exact below_drewN _ (Below.refl _ _)))
            rw [← hW7]
            clear hW7 x0 z0 z1 z2 z3 z4 z5 z6 d0 d1 d2 d3 d4 d5 d6
            have x0 := Lies.cell (i := 0) (HGL.out W7 HV7.out.2.2.2.1) rfl
            have lx := HV7.out.2.1
            have z0 := lx.cell (i := 0) rfl
            have z1 := lx.cell (i := 1) rfl
            have z2 := lx.cell (i := 2) rfl
            have z3 := lx.cell (i := 3) rfl
            have z4 := lx.cell (i := 4) rfl
            have z5 := lx.cell (i := 5) rfl
            have z6 := lx.cell (i := 6) rfl
            obtain ⟨d0, d1, d2, d3, d4, d5, d6⟩ := (HGI.out W7 HV7.out.2.2.2.1).look HX.out
            simp only at d0 d1 d2 d3 d4 d5 d6
            clear lx
            go_wp2_with (at_builtin; refine app_inv rfl _ _ rfl W5 G X ⟨ys, yk, ⟨mt, mr, mv, mg, ml⟩⟩ _ A ⟨xs1, xk, ⟨xt, xr, xv, xg, xl⟩⟩ rfl (HV7.out.below ((Below.refl _ _).alloc (Nat.le_refl _) _)) W7.heap.size 1 rfl (one_rows (Lies.new W7 (RowV.cells ⟨xs1, xk, ⟨xt, xr, xv, xg, xl⟩⟩) _)) (by have := HIn.out; have := HLn.out; omega) ?_; intro v_w8 w8 h_w8; have HV8 := Lib.hid h_w8; clear h_w8)
            go_roundg (N - (i + 1))
            case measure => have := HIn.out; omega
            case rel => exact ⟨i + 1, _, true, by have := HIn.out; omega, by go_num, rfl, HV8, Lib.hid (out_past HX.out (by omega) rfl HT.out), Lib.hid ⟨by have := HLn.out; rw [List.length_append]; simp only [List.length_cons, List.length_nil]; omega, fun h => by simp at h⟩⟩
          | false =>
            have hz1 : Below W6.heap.size W6 W6 ∧ W6.cell? ⟨b, 0, none⟩ = some (.slice (some ⟨b1, o1, none⟩) N c) ∧ W6.cell? ⟨X, 0, none⟩ = some (.string ys) ∧ W6.cell? ⟨X, 1, none⟩ = some (.string yk) ∧ W6.cell? ⟨X, 2, none⟩ = some (.int .i64 mt) ∧ W6.cell? ⟨X, 3, none⟩ = some (.int .i64 mr) ∧ W6.cell? ⟨X, 4, none⟩ = some (.string mv) ∧ W6.cell? ⟨X, 5, none⟩ = some (.bool mg) ∧ W6.cell? ⟨X, 6, none⟩ = some (.int .i64 ml) ∧ W6.cell? ⟨b1, o1 + i * 7, none⟩ = some (.string xs1) ∧ W6.cell? ⟨b1, o1 + i * 7 + 1, none⟩ = some (.string xk) ∧ W6.cell? ⟨b1, o1 + i * 7 + 2, none⟩ = some (.int .i64 xt) ∧ W6.cell? ⟨b1, o1 + i * 7 + 3, none⟩ = some (.int .i64 xr) ∧ W6.cell? ⟨b1, o1 + i * 7 + 4, none⟩ = some (.string xv) ∧ W6.cell? ⟨b1, o1 + i * 7 + 5, none⟩ = some (.bool xg) ∧ W6.cell? ⟨b1, o1 + i * 7 + 6, none⟩ = some (.int .i64 xl) := ⟨Below.refl _ _, x0, z0, z1, z2, z3, z4, z5, z6, d0, d1, d2, d3, d4, d5, d6⟩
            go_region_held3 (fun w' => Below W6.heap.size W6 w' ∧ w'.cell? ⟨b, 0, none⟩ = some (.slice (some ⟨b1, o1, none⟩) N c) ∧ w'.cell? ⟨X, 0, none⟩ = some (.string ys) ∧ w'.cell? ⟨X, 1, none⟩ = some (.string yk) ∧ w'.cell? ⟨X, 2, none⟩ = some (.int .i64 mt) ∧ w'.cell? ⟨X, 3, none⟩ = some (.int .i64 mr) ∧ w'.cell? ⟨X, 4, none⟩ = some (.string mv) ∧ w'.cell? ⟨X, 5, none⟩ = some (.bool mg) ∧ w'.cell? ⟨X, 6, none⟩ = some (.int .i64 ml) ∧ w'.cell? ⟨b1, o1 + i * 7, none⟩ = some (.string xs1) ∧ w'.cell? ⟨b1, o1 + i * 7 + 1, none⟩ = some (.string xk) ∧ w'.cell? ⟨b1, o1 + i * 7 + 2, none⟩ = some (.int .i64 xt) ∧ w'.cell? ⟨b1, o1 + i * 7 + 3, none⟩ = some (.int .i64 xr) ∧ w'.cell? ⟨b1, o1 + i * 7 + 4, none⟩ = some (.string xv) ∧ w'.cell? ⟨b1, o1 + i * 7 + 5, none⟩ = some (.bool xg) ∧ w'.cell? ⟨b1, o1 + i * 7 + 6, none⟩ = some (.int .i64 xl))
              (first | (refine keepApp ?_ hbb; assumption) | exact keepApp (by assumption) (Below.refl _ _).drew | exact keepApp hz1 (Below.refl _ _).drew)
              (first | (go_at_call 21; refine (HBl.out _).mono ?_; rintro e wn ⟨rfl, hbb⟩))
            have hz2 : Below W6.heap.size W6 wn ∧ wn.cell? ⟨b, 0, none⟩ = some (.slice (some ⟨b1, o1, none⟩) N c) ∧ wn.cell? ⟨X, 0, none⟩ = some (.string ys) ∧ wn.cell? ⟨X, 1, none⟩ = some (.string yk) ∧ wn.cell? ⟨X, 2, none⟩ = some (.int .i64 mt) ∧ wn.cell? ⟨X, 3, none⟩ = some (.int .i64 mr) ∧ wn.cell? ⟨X, 4, none⟩ = some (.string mv) ∧ wn.cell? ⟨X, 5, none⟩ = some (.bool mg) ∧ wn.cell? ⟨X, 6, none⟩ = some (.int .i64 ml) ∧ wn.cell? ⟨b1, o1 + i * 7, none⟩ = some (.string xs1) ∧ wn.cell? ⟨b1, o1 + i * 7 + 1, none⟩ = some (.string xk) ∧ wn.cell? ⟨b1, o1 + i * 7 + 2, none⟩ = some (.int .i64 xt) ∧ wn.cell? ⟨b1, o1 + i * 7 + 3, none⟩ = some (.int .i64 xr) ∧ wn.cell? ⟨b1, o1 + i * 7 + 4, none⟩ = some (.string xv) ∧ wn.cell? ⟨b1, o1 + i * 7 + 5, none⟩ = some (.bool xg) ∧ wn.cell? ⟨b1, o1 + i * 7 + 6, none⟩ = some (.int .i64 xl) := by assumption
            have HV7 := Lib.hid (HV1.out.below hz2.1)
            clear hz1 hz2 x0 z0 z1 z2 z3 z4 z5 z6 d0 d1 d2 d3 d4 d5 d6
            rename World => W7
            have x0 := Lies.cell (i := 0) (HGL.out W7 HV7.out.2.2.2.1) rfl
            have lx := HV7.out.2.1
            have z0 := lx.cell (i := 0) rfl
            have z1 := lx.cell (i := 1) rfl
            have z2 := lx.cell (i := 2) rfl
            have z3 := lx.cell (i := 3) rfl
            have z4 := lx.cell (i := 4) rfl
            have z5 := lx.cell (i := 5) rfl
            have z6 := lx.cell (i := 6) rfl
            obtain ⟨d0, d1, d2, d3, d4, d5, d6⟩ := (HGI.out W7 HV7.out.2.2.2.1).look HX.out
            simp only at d0 d1 d2 d3 d4 d5 d6
            clear lx
            cases kk with
            | true =>
              go_wp2_with (first | (at_builtin; refine app_inv rfl _ _ rfl W5 G X ⟨ys, yk, ⟨mt, mr, mv, mg, ml⟩⟩ _ A ⟨ys, yk, ⟨mt, mr, mv, mg, ml⟩⟩ rfl (HV7.out.below ((Below.refl _ _).alloc (Nat.le_refl _) _)) W7.heap.size 1 rfl (one_rows (Lies.new W7 (RowV.cells ⟨ys, yk, ⟨mt, mr, mv, mg, ml⟩⟩) _)) (by have := HIn.out; have := HLn.out; omega) ?_; intro v_w8 w8 h_w8; have HV8 := Lib.hid h_w8; clear h_w8; have x0 := Lies.cell (i := 0) (HGL.out w8 HV8.out.2.2.2.1) rfl; have lx := HV8.out.2.1; have z0 := lx.cell (i := 0) rfl; have z1 := lx.cell (i := 1) rfl; have z2 := lx.cell (i := 2) rfl; have z3 := lx.cell (i := 3) rfl; have z4 := lx.cell (i := 4) rfl; have z5 := lx.cell (i := 5) rfl; have z6 := lx.cell (i := 6) rfl; obtain ⟨d0, d1, d2, d3, d4, d5, d6⟩ := (HGI.out w8 HV8.out.2.2.2.1).look HX.out; simp only at d0 d1 d2 d3 d4 d5 d6; clear lx) | (at_builtin; refine app_inv rfl _ _ rfl W5 G X ⟨ys, yk, ⟨mt, mr, mv, mg, ml⟩⟩ _ (A ++ [⟨ys, yk, ⟨mt, mr, mv, mg, ml⟩⟩]) ⟨xs1, xk, ⟨xt, xr, xv, xg, xl⟩⟩ rfl (HV8.out.below ((Below.refl _ _).alloc (Nat.le_refl _) _)) w8.heap.size 1 rfl (one_rows (Lies.new w8 (RowV.cells ⟨xs1, xk, ⟨xt, xr, xv, xg, xl⟩⟩) _)) (by have := HIn.out; have := HLn.out.2 (by simp); rw [List.length_append]; simp only [List.length_cons, List.length_nil]; omega) ?_; intro v_w9 w9 h_w9; have HV9 := Lib.hid h_w9; clear h_w9))
              go_roundg (N - (i + 1))
              case measure => have := HIn.out; omega
              case rel => exact ⟨i + 1, _, true, by have := HIn.out; omega, by go_num, rfl, HV9, Lib.hid (out_ahead HX.out (by omega) HK.out.symm HT.out), Lib.hid ⟨by have := HLn.out.2 (by simp); simp only [List.length_append, List.length_cons, List.length_nil]; omega, fun h => by simp at h⟩⟩
            | false =>
              go_wp2_with (at_builtin; refine app_inv rfl _ _ rfl W5 G X ⟨ys, yk, ⟨mt, mr, mv, mg, ml⟩⟩ _ A ⟨xs1, xk, ⟨xt, xr, xv, xg, xl⟩⟩ rfl (HV7.out.below ((Below.refl _ _).alloc (Nat.le_refl _) _)) W7.heap.size 1 rfl (one_rows (Lies.new W7 (RowV.cells ⟨xs1, xk, ⟨xt, xr, xv, xg, xl⟩⟩) _)) (by have := HIn.out; have := HLn.out; omega) ?_; intro v_w8 w8 h_w8; have HV8 := Lib.hid h_w8; clear h_w8)
              go_roundg (N - (i + 1))
              case measure => have := HIn.out; omega
              case rel => exact ⟨i + 1, _, false, by have := HIn.out; omega, by go_num, rfl, HV8, Lib.hid (out_past HX.out (by omega) (by rw [← HK.out]; rfl) HT.out), Lib.hid ⟨by have := HLn.out; simp only [List.length_append, List.length_cons, List.length_nil]; omega, fun _ => by have := HLn.out.2 (by simp); simp only [List.length_append, List.length_cons, List.length_nil]; omega⟩⟩
        · have t1 : decide ((i : Int) < (N : Int)) = false := decide_eq_false (by omega)
          have t1' : decide (i < N) = false := decide_eq_false hlt
          have HTe := Lib.hid (out_end (by rw [← HN.out]; omega) HT.out)
          have HIn := Lib.hid hi
          have hL6 := HGL.out W6 HV1.out.2.2.2.1
          have f0 := Lies.free hL6 0
          clear hlt hi hL6
          cases d with
          | true =>
            have hT : A = _ := (List.append_nil A).symm.trans HTe.out
            have HF := Lib.hid (fin16 (xs := xs) HV1.out (HGL.out W6 HV1.out.2.2.2.1) HGb.out.1 HGb.out.2 HB5.out)
            have HTA := Lib.hid hT
            clear hT lx
            go_wp2
            go_ret
            refine ⟨rfl, ?_⟩
            show RefStoX _ _ b xs (outV ⟨ys, yk, ⟨mt, mr, mv, mg, ml⟩⟩ (j : Int) xs 0 false) ∧ _
            rw [← HTA.out]
            exact HF.out
          | false =>
            have HTA := Lib.hid (show A ++ [⟨ys, yk, ⟨mt, mr, mv, mg, ml⟩⟩] = _ from HTe.out)
            clear lx
            go_wp2_with (at_builtin; refine app_inv rfl _ _ rfl W5 G X ⟨ys, yk, ⟨mt, mr, mv, mg, ml⟩⟩ _ A ⟨ys, yk, ⟨mt, mr, mv, mg, ml⟩⟩ rfl (HV1.out.below ((Below.refl _ _).alloc (Nat.le_refl _) _)) W6.heap.size 1 rfl (one_rows (Lies.new W6 (RowV.cells ⟨ys, yk, ⟨mt, mr, mv, mg, ml⟩⟩) _)) (by have := HIn.out; have := HLn.out.2 (by simp); omega) ?_; intro v_w8 w8 h_w8; have HV8 := Lib.hid h_w8; clear h_w8; obtain ⟨p8, c8, hs8, _, _⟩ := HV8.out.1.shape; subst hs8; have x0 := Lies.cell (i := 0) (HGL.out w8 HV8.out.2.2.2.1) rfl; have f0 := Lies.free (HGL.out w8 HV8.out.2.2.2.1) 0)
            have HF := Lib.hid (fin16 (xs := xs) HV8.out (HGL.out w8 HV8.out.2.2.2.1) HGb.out.1 HGb.out.2 HB5.out)
            go_ret
            refine ⟨rfl, ?_⟩
            show RefStoX _ _ b xs (outV ⟨ys, yk, ⟨mt, mr, mv, mg, ml⟩⟩ (j : Int) xs 0 false) ∧ _
            rw [← HTA.out]
            have hf := HF.out
            rw [List.length_append] at hf
            exact hf
end Go.Proofs.YtgbhfhnbmgkaoaaGreatDoor
