/-
  CookieOne's contract. The conditions: the program's contracts; what came in lies in memory.
-/
import Derived.Deep.RegionLaw
import Derived.Deep.RegionHeldLaw
import Derived.Deep.LoopGhost
import Derived.Test.YtaniekpkcihpiaaCookieAwake
import Derived.Test.YtaniekpkcihpiaaCookieHits
namespace Go.Proofs.Ytaniekpkcihpiaa
open Go.RowKit TextNat CookieMath

theorem run_append_empty {P : Program} (t ty e : TypeId) (i : TypeInfo) (ht : P.underlying t = some (.slice e)) (hi : P.info? e = some i) (b pp : Option Addr) (n c c2 : Nat) (h : n ≤ c) (w : World) :
    (Builtin.append_ #[t, t] ty #[.slice b n c, .slice pp 0 c2]).run P w = .ok (.slice b n c) w := by
  cases b <;> cases pp <;> simp [Builtin.append_, run_underlying ht, sizeOf, typeInfo, hi, Builtin.lenOf, Builtin.firstCells, loadCells, loadCellsFrom, h, storeCells]
theorem step_pairs2 {ops : Array Oper} {o : Oper} {ac : Act} {K : Act → World → Prop} {Q : Exit → Act → World → Prop} {E : Prop} {w : World} (hw : Region.wanted o (yielded ops ac.tmps) = true) (s x : Operand)
    (ho : o.op = .call { callee := .builtin .append, args := #[s, x], argTypes := #[22, 22] })
    (B : Nat) (v : Value) (A N : List PairV) (hs : ac.eval s = v) (hown : OwnQ w B v A) (pp : Option Addr) (n c : Nat) (hn : n = N.length) (hx : ac.eval x = .slice pp n c)
    (hnews : ∀ j u, (N.flatMap pcells)[j]? = some u → ∃ ad, pp = some ad ∧ w.cell? (ad.add j) = some u) (hz : A.length + N.length ≤ 2000000) (hB : B ≤ w.heap.size)
    (h : ∀ v' w', OwnQ w' B v' (A ++ N) → Below B w w' → w.grownBy w' v.ownBlock → K (ac.put o.dst v') w') : if Region.wanted o (yielded ops ac.tmps) = true then Oper.wp Try.prog o ac w K Q else E := by
  subst hn
  rw [if_pos hw]
  obtain ⟨ii, hii, hi0, hi1, hi2⟩ := info_parts info_pair
  have key : ∃ v' w', (Builtin.append_ #[22, 22] o.type #[v, .slice pp N.length c]).run Try.prog w = .ok v' w' ∧ OwnQ w' B v' (A ++ N) ∧ Below B w w' ∧ w.grownBy w' v.ownBlock := by
    by_cases hN : N = []
    · subst hN
      obtain ⟨p0, c0, rfl, hc0, _⟩ := hown.shape
      exact ⟨_, w, run_append_empty _ _ _ ii Try.underlying22 hii _ _ _ _ _ hc0 w, by rw [List.append_nil]; exact hown, Below.refl _ _, ⟨rfl, rfl, rfl, Nat.le_refl _, fun _ _ _ => rfl⟩⟩
    · obtain ⟨y, hy⟩ : ∃ y, (N.flatMap pcells)[0]? = some y := by
        cases N with
        | nil => exact absurd rfl hN
        | cons a r => exact ⟨_, rfl⟩
      obtain ⟨ad, rfl, _⟩ := hnews 0 y hy
      obtain ⟨v', w', hr, h2, h3, _⟩ := run_own_far (P := Try.prog) w B 22 o.type 24 ii _ 2 32 Try.underlying22 hii hi0 hi1 hi2 rfl (by decide) v A.length (A.flatMap pcells) hown ad N.length c (N.flatMap pcells) (pcells_len N) (fun j u hu => by
        obtain ⟨ad2, e, hc⟩ := hnews j u hu
        obtain rfl := Option.some.inj e
        exact hc) (pcells_one N) (by unfold maxLen; omega) (by omega) hB
      refine ⟨v', w', hr, ?_, (Below.refl B w).grown h3 hB fun q hq => hown.blk q hq, h3⟩
      unfold OwnQ
      rw [List.length_append, List.flatMap_append]
      exact h2
  obtain ⟨v', w', hr, h2, h3, h4⟩ := key
  unfold Oper.wp execOp
  simp only [ho, resolve, invoke, builtin, Sem.run_bind, Sem.run_pure, Result.andThen_ok, List.map_toArray, List.map_cons, List.map_nil, hs, hx, hr]
  exact h v' w' h2 h3 h4
abbrev SOne (W : World) (r : Nat) (a b : Value) (w' : World) : Prop := Below W.heap.size W w' ∧ w'.cell? ⟨r, 0, none⟩ = some a ∧ w'.cell? ⟨r, 1, none⟩ = some b
theorem SOne.step {W w' w2 : World} {r : Nat} {a b : Value} (hr : r < W.heap.size) (h : SOne W r a b w') (hb : Below W.heap.size w' w2) : SOne W r a b w2 :=
  ⟨h.1.trans hb, (hb.cell (p := ⟨r, 0, none⟩) hr).trans h.2.1, (hb.cell (p := ⟨r, 1, none⟩) hr).trans h.2.2⟩
theorem SOne.made {W X : World} {r : Nat} {a b : Value} {o : Obj} (hr : r < W.heap.size) (h : SOne W r a b X.drew) : SOne W r a b (X.alloc o).drew := by
  have hs : W.heap.size ≤ X.heap.size := h.1.size
  have hb : Below W.heap.size X.drew (X.alloc o).drew := ⟨rfl, rfl, rfl, by show X.heap.size ≤ (X.alloc o).heap.size; simp, fun k hk => (by first | exact heap_alloc_old X o k (Nat.lt_of_lt_of_le hk hs) | exact heap_alloc_old X o (Nat.lt_of_lt_of_le hk hs))⟩
  exact h.step hr hb
theorem SOne.made2 {W X : World} {r : Nat} {a b : Value} {o : Obj} (hr : r < W.heap.size) (h : SOne W r a b X) : SOne W r a b (X.alloc o) := by
  have hs : W.heap.size ≤ X.heap.size := h.1.size
  have hb : Below W.heap.size X (X.alloc o) := ⟨rfl, rfl, rfl, by simp, fun k hk => (by first | exact heap_alloc_old X o k (Nat.lt_of_lt_of_le hk hs) | exact heap_alloc_old X o (Nat.lt_of_lt_of_le hk hs))⟩
  exact h.step hr hb
theorem ownQ_at {w : World} {B g : Nat} (hg : w.heap[g]? = some (.cells #[] 24 (0, 0))) (hB : B ≤ g) : OwnQ w B (.slice (some ⟨g, 0, none⟩) 0 0) [] :=
  ⟨rfl, .inr ⟨g, 0, #[], rfl, hB, hg, Nat.le_refl _, by unfold maxLen; omega, rfl, rfl⟩⟩
theorem alloc_old {w : World} {o o2 : Obj} {k : Nat} (h : w.heap[k]? = some o) : (w.alloc o2).heap[k]? = some o := by
  have hk := (Array.getElem?_eq_some_iff.1 h).1
  have : (w.alloc o2).heap[k]? = w.heap[k]? := by first | exact heap_alloc_old w o2 k hk | exact heap_alloc_old w o2 hk
  rw [this, h]
theorem news_take {w : World} {pp : Option Addr} {xs : List PairV} {q : Nat} (h : PairsIn w pp xs) : ∀ (j : Nat) (u : Value), ((xs.take q).flatMap pcells)[j]? = some u → ∃ ad, pp = some ad ∧ w.cell? (ad.add j) = some u := by
  intro j u hu
  have hne : 0 < (xs.take q).length := by
    cases hx : xs.take q with
    | nil => rw [hx] at hu; simp at hu
    | cons a r => simp
  have hxl : 0 < xs.length := by rw [List.length_take] at hne; omega
  obtain ⟨b, off, rfl⟩ := h.addr hxl
  refine ⟨_, rfl, ?_⟩
  refine news_pairs (xs := xs.take q) (fun i x hx => h i x ?_) j u hu
  rw [List.getElem?_take] at hx
  split at hx
  · exact hx
  · cases hx
theorem news_drop {w : World} {pp : Option Addr} {xs : List PairV} {q cap : Nat} (h : PairsIn w pp xs) (hc : xs.length ≤ cap) : ∀ (j : Nat) (u : Value), ((xs.drop q).flatMap pcells)[j]? = some u → ∃ ad, (if cap = q then pp else Option.map (fun x => x.add (q * 2)) pp) = some ad ∧ w.cell? (ad.add j) = some u := by
  intro j u hu
  have hne : 0 < (xs.drop q).length := by
    cases hx : xs.drop q with
    | nil => rw [hx] at hu; simp at hu
    | cons a r => simp
  rw [List.length_drop] at hne
  obtain ⟨b, off, rfl⟩ := h.addr (by omega)
  rw [if_neg (by omega)]
  have hadd : (⟨b, off, none⟩ : Addr).add (q * 2) = ⟨b, off + q * 2, none⟩ := by unfold Addr.add; split <;> simp_all
  refine ⟨⟨b, off + q * 2, none⟩, by simp [hadd], ?_⟩
  refine news_pairs (xs := xs.drop q) (fun i x hx => ?_) j u hu
  rw [List.getElem?_drop] at hx
  obtain ⟨h1, h2⟩ := h.look hx
  exact ⟨b, off + q * 2, rfl, by rw [show off + q * 2 + i * 2 = off + (q + i) * 2 by omega]; exact h1, by rw [show off + q * 2 + i * 2 = off + (q + i) * 2 by omega]; exact h2⟩
theorem lies_pair {w : World} {g : Nat} {a b : ByteArray} (h : w.heap[g]? = some (.cells #[.string a, .string b] 24 (0, 0))) : ∀ (j : Nat) (u : Value), ([((a, b) : PairV)].flatMap pcells)[j]? = some u → ∃ ad, some (⟨g, 0, none⟩ : Addr) = some ad ∧ w.cell? (ad.add j) = some u := by
  intro j u hu
  refine ⟨_, rfl, news_pairs (w := w) (b := g) (off := 0) (xs := [(a, b)]) (fun i x hx => ?_) j u hu⟩
  have hk : i = 0 := by have := (List.getElem?_eq_some_iff.1 hx).1; simp at this; exact this
  subst hk
  obtain rfl : (a, b) = x := by simpa using hx
  have hl : Lies w g [.string a, .string b] 24 := h
  exact ⟨g, 0, rfl, hl.cell (i := 0) rfl, hl.cell (i := 1) rfl⟩
theorem drewN_one {B : Nat} {a w : World} (n : Nat) (h : Below B a w) : Below B a (w.drewN n) := ⟨h.os, h.tape, h.output, h.size, h.block⟩
set_option maxRecDepth 100000 in
set_option maxHeartbeats 2000000 in
theorem one_true (hP : ParseOk) (hW : WriteOk) (hF : FindOk) (pp : Option Addr) (cap : Nat) (xs : List PairV) (k : Int) (p : PairV) (w : World) (hx : PairsIn w pp xs) (hc : xs.length ≤ cap) (hm : cap ≤ 9223372036854775807) (hk : -9223372036854775808 ≤ k ∧ k ≤ 9223372036854775807) :
    Calls Try.prog 3 #[.slice pp xs.length cap, .int .i64 k, pairVal p] w fun e w' => e = .returned (.bool true) ∧ Below w.heap.size w w' := by
  obtain ⟨p1, p2⟩ := p
  have HP := Lib.hid hP
  have HW := Lib.hid hW
  have HF := Lib.hid hF
  have HC := Lib.hid (And.intro hc hm)
  have HX := Lib.hid hx
  obtain ⟨N, hN⟩ : ∃ N, N = xs.length := ⟨_, rfl⟩
  have HN := Lib.hid hN
  rw [← hN]
  have hNc : N ≤ cap := by omega
  clear hP hW hF hx hc hN
  go_enter Try.func3, Try.ntmps3
  go_wp2_with fail
  obtain ⟨r, hr⟩ : ∃ r, r = w.heap.size := ⟨_, rfl⟩
  obtain ⟨W, hWd⟩ : ∃ W, W = w.alloc (.cells #[.string p1, .string p2] 24) := ⟨_, rfl⟩
  rw [← hWd]
  have hb : Below w.heap.size w W := by rw [hWd]; exact (Below.refl _ _).alloc (Nat.le_refl _) _
  have HRow := Lib.hid (show Lies W r [.string p1, .string p2] 24 by rw [hWd, hr]; exact Lies.new w _ _)
  have HB := Lib.hid hb
  simp only [← hr]
  have HRw := Lib.hid hr
  clear hb hWd hr
  refine (awake_true HP.out W).mono ?_
  rintro e w1 ⟨rfl, hb⟩
  replace HRow := Lib.hid (HRow.out.below hb)
  replace HB := Lib.hid (HB.out.trans (hb.mono HB.out.size))
  clear hb
  have c0 := HRow.out.cell (i := 0) rfl
  have c1 := HRow.out.cell (i := 1) rfl
  by_cases h1 : 30 < N
  · have t1 : decide ((30 : Int) < (N : Int)) = true := decide_eq_true (by omega)
    have t1' : decide (30 < N) = true := decide_eq_true h1
    clear h1
    go_wp2
    go_ret
    exact ⟨rfl, HB.out⟩
  have t1 : decide ((30 : Int) < (N : Int)) = false := decide_eq_false (by omega)
  have t1' : decide (30 < N) = false := decide_eq_false h1
  by_cases h2 : k < 0
  · have t2 : decide (k < 0) = true := decide_eq_true h2
    clear h1 h2
    go_wp2
    go_ret
    exact ⟨rfl, HB.out⟩
  have t2 : decide (k < 0) = false := decide_eq_false h2
  obtain ⟨q, rfl⟩ : ∃ q : Nat, k = (q : Int) := ⟨k.toNat, by omega⟩
  by_cases h3 : N < q
  · have t3 : decide ((N : Int) < (q : Int)) = true := decide_eq_true (by omega)
    have t3' : decide (N < q) = true := decide_eq_true h3
    clear h1 h2 h3
    go_wp2
    go_ret
    exact ⟨rfl, HB.out⟩
  have t3 : decide ((N : Int) < (q : Int)) = false := decide_eq_false (by omega)
  have t3' : decide (N < q) = false := decide_eq_false h3
  by_cases h4 : 100 < p1.size
  · have t4 : decide ((100 : Int) < (p1.size : Int)) = true := decide_eq_true (by omega)
    have t4' : decide (100 < p1.size) = true := decide_eq_true h4
    clear h1 h2 h3 h4
    go_wp2
    go_ret
    exact ⟨rfl, HB.out⟩
  have t4 : decide ((100 : Int) < (p1.size : Int)) = false := decide_eq_false (by omega)
  have t4' : decide (100 < p1.size) = false := decide_eq_false h4
  by_cases h5 : 100 < p2.size
  · have t5 : decide ((100 : Int) < (p2.size : Int)) = true := decide_eq_true (by omega)
    have t5' : decide (100 < p2.size) = true := decide_eq_true h5
    clear h1 h2 h3 h4 h5
    go_wp2
    go_ret
    exact ⟨rfl, HB.out⟩
  have t5 : decide ((100 : Int) < (p2.size : Int)) = false := decide_eq_false (by omega)
  have t5' : decide (100 < p2.size) = false := decide_eq_false h5
  have HSz := Lib.hid (show N ≤ 30 ∧ q ≤ N ∧ p1.size ≤ 100 ∧ p2.size ≤ 100 by omega)
  have hqN : q ≤ N := by omega
  clear h1 h2 h3 h4 h5 hk
  go_wp2
  clear c0 c1
  go_loopg [47] N (fun gh s47 wx => ∃ i : Nat, i + gh = N ∧ s47 = .int .i64 (i : Int) ∧ Hid (∀ j y, j < i → xs[j]? = some y → y.1.size ≤ 60 ∧ y.2.size ≤ 60 ∧ ¬ y.1 = p1) ∧ Hid (Lies wx r [.string p1, .string p2] 24) ∧ Below w.heap.size w wx)
  case atStart => exact ⟨0, by omega, by go_num, Lib.hid (fun j y hj => absurd hj (Nat.not_lt_zero j)), HRow, HB.out⟩
  case round =>
    obtain ⟨i, hi, rfl, HS, HRow, hB⟩ := hrel
    replace HB := Lib.hid hB
    have c0 := HRow.out.cell (i := 0) rfl
    have c1 := HRow.out.cell (i := 1) rfl
    by_cases hlt : i < N
    · have u1 : decide ((i : Int) < (N : Int)) = true := decide_eq_true (by omega)
      have u1' : decide (i < N) = true := decide_eq_true hlt
      obtain ⟨x, hx⟩ : ∃ x, xs[i]? = some x := ⟨_, List.getElem?_eq_getElem (by rw [← HN.out]; exact hlt)⟩
      obtain ⟨b1, o1, rfl⟩ := HX.out.addr (by rw [← HN.out]; omega)
      obtain ⟨d0, d1⟩ := (HX.out.grown HB.out).look hx
      have HSn := Lib.hid (fun (h : x.1.size ≤ 60 ∧ x.2.size ≤ 60 ∧ ¬ x.1 = p1) => show ∀ j y, j < i + 1 → xs[j]? = some y → y.1.size ≤ 60 ∧ y.2.size ≤ 60 ∧ ¬ y.1 = p1 from fun j y hj hy => by
        by_cases e : j < i
        · exact HS.out j y e hy
        · obtain rfl : j = i := by omega
          obtain rfl := Option.some.inj (hx.symm.trans hy)
          exact h)
      obtain ⟨x1, x2⟩ := x
      simp only at d0 d1 HSn
      have hb2 : Below wr.heap.size wr (wr.alloc (.cells #[.string x1, .string x2] 24)) := (Below.refl _ _).alloc (Nat.le_refl _) _
      have HB2 := Lib.hid (HB.out.trans (hb2.mono HB.out.size))
      have HRow2 := Lib.hid (HRow.out.below hb2)
      have e0 := HRow2.out.cell (i := 0) rfl
      have hrl := HRow.out.lt
      clear hb2 hB
      by_cases h1 : 60 < x1.size
      · have t6 : decide ((60 : Int) < (x1.size : Int)) = true := decide_eq_true (by omega)
        have t6' : decide (60 < x1.size) = true := decide_eq_true h1
        clear hx h1
        go_wp2
        go_ret
        exact ⟨rfl, HB2.out⟩
      have t6 : decide ((60 : Int) < (x1.size : Int)) = false := decide_eq_false (by omega)
      have t6' : decide (60 < x1.size) = false := decide_eq_false h1
      by_cases h2 : 60 < x2.size
      · have t7 : decide ((60 : Int) < (x2.size : Int)) = true := decide_eq_true (by omega)
        have t7' : decide (60 < x2.size) = true := decide_eq_true h2
        clear hx h1 h2
        go_wp2
        go_ret
        exact ⟨rfl, HB2.out⟩
      have t7 : decide ((60 : Int) < (x2.size : Int)) = false := decide_eq_false (by omega)
      have t7' : decide (60 < x2.size) = false := decide_eq_false h2
      by_cases h3 : x1 = p1
      · subst h3
        clear hx h1 h2
        go_wp2
        go_ret
        exact ⟨rfl, HB2.out⟩
      have t8 : (x1.toList == p1.toList) = false := beq_eq_false_iff_ne.2 (text_list h3)
      have HSm := Lib.hid (HSn.out ⟨by omega, by omega, h3⟩)
      clear hx h1 h2 h3
      go_wp2
      go_roundg (N - (i + 1))
      case measure => omega
      case rel => exact ⟨i + 1, by omega, by go_num, HSm, HRow2, HB2.out⟩
    · obtain rfl : i = N := by omega
      have u1 : decide ((i : Int) < (i : Int)) = false := decide_eq_false (by omega)
      have u1' : decide (i < i) = false := decide_eq_false (by omega)
      have HAll := Lib.hid (show ∀ y ∈ xs, y.1.size ≤ 60 ∧ y.2.size ≤ 60 ∧ ¬ y.1 = p1 from fun y hy => by
        obtain ⟨j, hj⟩ := List.getElem?_of_mem hy
        exact HS.out j y (by have := (List.getElem?_eq_some_iff.1 hj).1; have := HN.out; omega) hj)
      clear hB
      have HTx := Lib.hid (show total (xs.map PairV.n) ≤ 3690 by
        have h1 := total_v xs 60 60 (fun y hy => ⟨(HAll.out y hy).1, (HAll.out y hy).2.1⟩)
        have h2 := Nat.mul_le_mul_right (60 + 60 + 3) (show xs.length ≤ 30 by have := HN.out; have := HSz.out; omega)
        omega)
      have HW0 := Lib.hid HB.out.size
      have hrl := HRow.out.lt
      have hqc : (q : Int) ≤ (cap : Int) := by omega
      have hqi : (q : Int) ≤ (i : Int) := by omega
      have s0 : Below wr.heap.size wr wr.drew ∧ wr.drew.cell? ⟨r, 0, none⟩ = some (.string p1) ∧ wr.drew.cell? ⟨r, 1, none⟩ = some (.string p2) := ⟨(Below.refl _ _).drew, c0, c1⟩
      go_wp2_with fail
      have HXr := Lib.hid (HX.out.grown HB.out)
      have HNx := Lib.hid (show xs.length ≤ cap ∧ q ≤ xs.length ∧ xs.length ≤ 30 by have := HN.out; have := HSz.out; omega)
      have eA : (wr.alloc (.cells #[] 24)).heap[wr.heap.size]? = some (.cells #[] 24) := heap_alloc_new wr (.cells #[] 24)
      have eC : ((wr.alloc (.cells #[.string p1, .string p2] 24)).alloc (.cells #[] 24)).heap[wr.heap.size + 1]? = some (.cells #[] 24) := by simpa using heap_alloc_new (wr.alloc (.cells #[.string p1, .string p2] 24)) (.cells #[] 24)
      have pC : (wr.alloc (.cells #[.string p1, .string p2] 24)).heap[wr.heap.size]? = some (.cells #[.string p1, .string p2] 24) := heap_alloc_new wr (.cells #[.string p1, .string p2] 24)
      have pB : ((wr.alloc (.cells #[] 24)).alloc (.cells #[.string p1, .string p2] 24)).heap[wr.heap.size + 1]? = some (.cells #[.string p1, .string p2] 24) := by simpa using heap_alloc_new (wr.alloc (.cells #[] 24)) (.cells #[.string p1, .string p2] 24)
      have HeA := Lib.hid eA; have HeC := Lib.hid eC; have HpC := Lib.hid pC; have HpB := Lib.hid pB
      have HeB := Lib.hid (show ((wr.alloc (.cells #[] 24)).alloc (.cells #[.string p1, .string p2] 24)).heap[wr.heap.size]? = some (.cells #[] 24) from alloc_old eA)
      have HpC2 := Lib.hid (show ((wr.alloc (.cells #[.string p1, .string p2] 24)).alloc (.cells #[] 24)).heap[wr.heap.size]? = some (.cells #[.string p1, .string p2] 24) from alloc_old pC)
      clear eA eC pC pB
      go_region_held_law (fun w' => Below wr.heap.size wr w' ∧ w'.cell? ⟨r, 0, none⟩ = some (.string p1) ∧ w'.cell? ⟨r, 1, none⟩ = some (.string p2))
        (first | exact s0 | assumption | exact SOne.made hrl (by assumption) | exact SOne.made2 hrl (by assumption) | exact SOne.step hrl (by assumption) hbb)
        (first
          | (refine step_pairs2 (by simp [Region.wanted]) (.tmp 69) (.tmp 72) rfl wr.heap.size _ [] (xs.take q) rfl (by first | exact ownQ_at HeA.out (Nat.le_refl _) | exact ownQ_at HeB.out (Nat.le_refl _) | exact ownQ_at HeC.out (Nat.le_succ _)) _ q cap (by have := HNx.out; rw [List.length_take]; omega) rfl (news_take (HXr.out.grown (And.left (b := _) (by assumption)))) (by have := HNx.out; rw [List.length_take]; show 0 + _ ≤ _; omega) (Below.size (And.left (b := _) (by assumption))) ?_
             intro v5 w5 h5 hbb hg5
             have HO5 := Lib.hid h5; have HG5 := Lib.hid hg5
             clear h5 hg5)
          | (refine step_pairs2 (by simp [Region.wanted]) (.tmp 73) (.tmp 75) rfl wr.heap.size _ ([] ++ xs.take q) [(p1, p2)] rfl (by first | exact HO5.out | exact OwnQ.below HO5.out ((Below.refl _ _).alloc (Nat.le_refl _) _)) _ 1 1 rfl rfl (by first | exact lies_pair (heap_alloc_new w5 (.cells #[.string p1, .string p2] 24)) | exact lies_pair ((HG5.out.block (wr.heap.size + 1) (Array.getElem?_eq_some_iff.1 HpB.out).1 (fun e => Nat.succ_ne_self _ (Option.some.inj e))).trans HpB.out) | exact lies_pair ((HG5.out.block wr.heap.size (Array.getElem?_eq_some_iff.1 HpC2.out).1 (fun e => Nat.succ_ne_self _ (Option.some.inj e).symm)).trans HpC2.out)) (by have := HNx.out; rw [List.nil_append, List.length_take]; show _ + 1 ≤ _; omega) (Below.size (And.left (b := _) (by assumption))) ?_
             intro v7 w7 h7 hbb hg7
             have HO7 := Lib.hid h7
             clear h7 hg7)
          | (refine step_pairs2 (by simp [Region.wanted]) (.tmp 76) (.tmp 79) rfl wr.heap.size _ ([] ++ xs.take q ++ [(p1, p2)]) (xs.drop q) rfl HO7.out _ (i - q) (cap - q) (by rw [List.length_drop, HN.out]) rfl (news_drop (HXr.out.grown (And.left (b := _) (by assumption))) HNx.out.1) (by have := HNx.out; simp; omega) (Below.size (And.left (b := _) (by assumption))) ?_
             intro v9 w9 h9 hbb hg9
             have HO9 := Lib.hid h9
             clear h9 hg9))
      all_goals
        generalize (if cap = q then pp else Option.map (fun x => x.add (q * 2)) pp) = zz
        have hz9 : Below wr.heap.size wr w9 ∧ w9.cell? ⟨r, 0, none⟩ = some (.string p1) ∧ w9.cell? ⟨r, 1, none⟩ = some (.string p2) := by assumption
        obtain ⟨hb9, c90, c91⟩ := hz9
        replace HB := Lib.hid (HB.out.trans (hb9.mono HB.out.size))
        have HRb := Lib.hid (show r < w9.heap.size from Nat.lt_of_lt_of_le hrl hb9.size)
        have HWb := Lib.hid (show wr.heap.size ≤ w9.heap.size from hb9.size)
        obtain ⟨ms, hms⟩ : ∃ ms, ms = [] ++ xs.take q ++ [(p1, p2)] ++ xs.drop q := ⟨_, rfl⟩
        rw [← hms] at HO9
        have HMt := Lib.hid (show total (ms.map PairV.n) ≤ 3893 by
          have h1 := total_append ((xs.take q).map PairV.n) ((xs.drop q).map PairV.n)
          rw [← List.map_append, List.take_append_drop] at h1
          have h2 := HTx.out
          have h3 := HSz.out
          rw [hms, List.map_append, List.map_append, List.map_append, total_append, total_append, total_append]
          have h4 : total ([(p1, p2)].map PairV.n) = p1.size + p2.size + 3 := by
            show (nats p1).length + (nats p2).length + 3 + 0 = _
            rw [nats_len, nats_len]
          rw [h4]
          show 0 + _ + _ + _ ≤ _
          omega)
        have HMe := Lib.hid (show ∀ y ∈ ms, y.1.size ≤ 20000 ∧ y.2.size ≤ 20000 by
          intro y hy
          rw [hms, List.nil_append] at hy
          rcases List.mem_append.1 hy with hy | hy
          · rcases List.mem_append.1 hy with hy | hy
            · have := HAll.out y (List.mem_of_mem_take hy); omega
            · obtain rfl : y = (p1, p2) := by simpa using hy
              have := HSz.out
              exact ⟨show p1.size ≤ 20000 by omega, show p2.size ≤ 20000 by omega⟩
          · have := HAll.out y (List.mem_of_mem_drop hy); omega)
        have HNa := Lib.hid (show ∀ y ∈ ([] ++ xs.take q : List PairV), ¬ y.1 = ((p1, p2) : PairV).1 from fun y hy => by
          rw [List.nil_append] at hy
          exact (HAll.out y (List.mem_of_mem_take hy)).2.2)
        have HNb := Lib.hid (show ∀ y ∈ xs.drop q, ¬ y.1 = ((p1, p2) : PairV).1 from fun y hy => (HAll.out y (List.mem_of_mem_drop hy)).2.2)
        have HH1 := Lib.hid (show hits ms p1 ms.length = [(p1, p2)] by rw [hms]; exact hits_one (p := (p1, p2)) HNa.out HNb.out)
        have HH2 := Lib.hid (show hits (ms ++ [(p1, p2)]) p1 (ms ++ [(p1, p2)]).length = [(p1, p2), (p1, p2)] by rw [hms]; exact hits_two (p := (p1, p2)) HNa.out HNb.out)
        obtain ⟨pm, cm, rfl, hcm, hcx⟩ := HO9.out.shape
        have HCm := Lib.hid (And.intro hcm hcx)
        obtain ⟨M, hM⟩ : ∃ M, M = ms.length := ⟨_, rfl⟩
        have HM := Lib.hid hM
        have HWr := Lib.hid (show Calls Try.prog 6 #[.slice pm M cm] w9 (fun e w' => WriteIs w' ms e ∧ Below w9.heap.size w9 w') by
          rw [hM]
          exact HW.out pm cm ms w9 HO9.out.pairs hcm hcx (by have := HMt.out; omega) HMe.out)
        rw [← hM]
        clear hb9 hcm hcx hM hms
        go_wp2_with fail
        refine HWr.out.mono ?_
        rintro e wA ⟨hA, hbA⟩
        unfold WriteIs at hA
        cases hbad : badV ms with
        | some kk =>
          rw [hbad] at hA
          obtain ⟨x, rfl, hx⟩ := hA
          obtain ⟨T, u, rfl⟩ := hx.is.iface
          replace HB := Lib.hid (HB.out.trans (hbA.mono HB.out.size))
          clear hx hbad hbA c90 c91
          go_wp2
          go_ret
          exact ⟨rfl, HB.out⟩
        | none =>
          rw [hbad] at hA
          simp only at hA
          have hR := badV_none hbad
          have hR2 : ∀ y ∈ (ms ++ [(p1, p2)]).map PairV.n, Right y := fun y hy => by
            rw [List.map_append] at hy
            rcases List.mem_append.1 hy with hy | hy
            · exact hR y hy
            · refine hR y ?_
              obtain rfl : y = PairV.n (p1, p2) := by simpa using hy
              have hin : ((p1, p2) : PairV) ∈ hits ms p1 ms.length := by rw [HH1.out]; simp
              unfold hits at hin
              exact List.mem_map_of_mem (List.mem_of_mem_take (List.mem_filter.1 hin).1)
          have hbad2 := badV_right hR2
          obtain ⟨H1, hH1⟩ : ∃ H, H = txt (header (ms.map PairV.n)) := ⟨_, rfl⟩
          obtain ⟨H2, hH2⟩ : ∃ H, H = txt (header ((ms ++ [(p1, p2)]).map PairV.n)) := ⟨_, rfl⟩
          have HP1 := Lib.hid (show parse (nats H1) = .inl (ms.map PairV.n) by rw [hH1, nats_txt _ (header_bytes ms)]; exact parse_header hR)
          have HP2 := Lib.hid (show parse (nats H2) = .inl ((ms ++ [(p1, p2)]).map PairV.n) by rw [hH2, nats_txt _ (header_bytes _)]; exact parse_header hR2)
          have HT2 := Lib.hid (show total ((ms ++ [(p1, p2)]).map PairV.n) ≤ 4096 by
            rw [List.map_append, total_append]
            have h1 := HMt.out
            have h2 := HSz.out
            have h4 : total ([(p1, p2)].map PairV.n) = p1.size + p2.size + 3 := by
              show (nats p1).length + (nats p2).length + 3 + 0 = _
              rw [nats_len, nats_len]
            rw [h4]
            omega)
          have HZ1 := Lib.hid (show H1.size ≤ 4096 by rw [hH1, txt_len]; exact Nat.le_trans (header_le _) (Nat.le_trans HMt.out (by decide)))
          have HZ2 := Lib.hid (show H2.size ≤ 4096 by rw [hH2, txt_len]; exact Nat.le_trans (header_le _) HT2.out)
          have HF1 := Lib.hid (show findF (nats H1) (nats p1) = .inl (nats p2) by rw [find_by (xs := ms) (by have := HZ1.out; omega) HP1.out, HH1.out])
          have HF2 := Lib.hid (show findF (nats H2) (nats p1) = .inr 8 by rw [find_by (xs := ms ++ [(p1, p2)]) (by have := HZ2.out; omega) HP2.out, HH2.out])
          rw [← hH1] at hA
          subst hA
          have HB2 := Lib.hid hbad2
          have HH2t := Lib.hid hH2
          replace HB := Lib.hid (HB.out.trans (hbA.mono HB.out.size))
          have c0A := (hbA.cell (p := ⟨r, 0, none⟩) HRb.out).trans c90
          have c1A := (hbA.cell (p := ⟨r, 1, none⟩) HRb.out).trans c91
          have HOA := Lib.hid (HO9.out.below hbA)
          have HSA := Lib.hid hbA.size
          clear hbad hbad2 hR hR2 hH1 hH2 hbA c90 c91
          go_wp2_with fail
          refine (HF.out H1 p1 wA (by have := HZ1.out; omega) (by have := HSz.out; omega)).mono ?_
          rintro e wB ⟨hB2, hbB⟩
          unfold FindIs at hB2
          rw [HF1.out] at hB2
          simp only [txt_nats] at hB2
          subst hB2
          replace HB := Lib.hid (HB.out.trans (hbB.mono HB.out.size))
          have hrA : r < wA.heap.size := Nat.lt_of_lt_of_le HRb.out HSA.out
          have c0B := (hbB.cell (p := ⟨r, 0, none⟩) hrA).trans c0A
          have c1B := (hbB.cell (p := ⟨r, 1, none⟩) hrA).trans c1A
          have hb3 : Below wB.heap.size wB (wB.alloc (.cells #[.string p1, .string p2] 24)) := (Below.refl _ _).alloc (Nat.le_refl _) _
          have HOB := Lib.hid (show OwnQ (wB.alloc (.cells #[.string p1, .string p2] 24)) wr.heap.size (.slice pm M cm) ms by
            rw [HM.out]
            exact (HOA.out.below hbB).below hb3)
          have HPI := Lib.hid (show PairsIn (wB.alloc (.cells #[.string p1, .string p2] 24)) (some ⟨wB.heap.size, 0, none⟩) [(p1, p2)] from fun j y hy => by
            have hk : j = 0 := by have := (List.getElem?_eq_some_iff.1 hy).1; simp at this; exact this
            subst hk
            obtain rfl : (p1, p2) = y := by simpa using hy
            have hn := Lies.new wB [.string p1, .string p2] 24
            exact ⟨_, _, rfl, hn.cell (i := 0) rfl, hn.cell (i := 1) rfl⟩)
          have HRB := Lib.hid (show r < wB.heap.size from Nat.lt_of_lt_of_le hrA hbB.size)
          have HWB := Lib.hid (show wr.heap.size ≤ (wB.alloc (.cells #[.string p1, .string p2] 24)).heap.size from Nat.le_trans (Nat.le_trans HWb.out (Nat.le_trans HSA.out hbB.size)) hb3.size)
          have HB3 := Lib.hid (HB.out.trans (hb3.mono HB.out.size))
          have HC0 := Lib.hid ((hb3.cell (p := ⟨r, 0, none⟩) HRB.out).trans c0B)
          have HC1 := Lib.hid ((hb3.cell (p := ⟨r, 1, none⟩) HRB.out).trans c1B)
          clear c0A c1A hrA hbB hb3
          go_wp2_with (at_builtin; refine app_pairs rfl _ _ rfl wr.heap.size _ ms [(p1, p2)] rfl HOB.out wB.heap.size 0 1 rfl HPI.out (by have h1 := length_le (ms.map PairV.n); have h2 := HMt.out; rw [List.length_map] at h1; show _ + 1 ≤ _; omega) HWB.out ?_; intro v4 w4 h1 h2 h3 h4; obtain ⟨pn, cn, rfl, hcn, hcx⟩ := h1.shape; have HPn := Lib.hid h1.pairs; have HCn := Lib.hid (And.intro hcn hcx); obtain ⟨M2, hM2⟩ : ∃ M2, M2 = (ms ++ [(p1, p2)]).length := ⟨_, rfl⟩; rw [← hM2]; have HM2 := Lib.hid hM2; have HB4 := Lib.hid (HB3.out.trans (h2.mono HW0.out)); have HR4 := Lib.hid (And.intro ((h2.cell (p := ⟨r, 0, none⟩) hrl).trans HC0.out) ((h2.cell (p := ⟨r, 1, none⟩) hrl).trans HC1.out)); clear h1 h2 h3 h4 hcn hcx hM2)
          have c0D := (show w4.cell? ⟨r, 0, none⟩ = some (.string p1) from HR4.out.1)
          have c1D := (show w4.cell? ⟨r, 1, none⟩ = some (.string p2) from HR4.out.2)
          have HWr2 := Lib.hid (show Calls Try.prog 6 #[.slice pn M2 cn] w4 (fun e w' => e = .returned (.tuple #[.string H2, .nilIface]) ∧ Below w4.heap.size w4 w') by
            have h := HW.out pn cn (ms ++ [(p1, p2)]) w4 HPn.out HCn.out.1 HCn.out.2 (by have := HT2.out; omega) (fun y hy => by
              rcases List.mem_append.1 hy with hy | hy
              · exact HMe.out y hy
              · obtain rfl : y = (p1, p2) := by simpa using hy
                have := HSz.out
                exact ⟨show p1.size ≤ 20000 by omega, show p2.size ≤ 20000 by omega⟩)
            rw [← HM2.out] at h
            refine h.mono ?_
            rintro e w' ⟨h1, h2⟩
            unfold WriteIs at h1
            rw [HB2.out] at h1
            simp only [← HH2t.out] at h1
            exact ⟨h1, h2⟩)
          clear c0B c1B
          refine HWr2.out.mono ?_
          rintro e wD ⟨rfl, hbD⟩
          have hr4 : r < w4.heap.size := World.block_lt_of_cell? w4 ⟨r, 0, none⟩ c0D
          have c0E := (hbD.cell (p := ⟨r, 0, none⟩) hr4).trans c0D
          have c1E := (hbD.cell (p := ⟨r, 1, none⟩) hr4).trans c1D
          replace HB := Lib.hid (HB4.out.trans (hbD.mono HB4.out.size))
          have hr5 : r < wD.heap.size := Nat.lt_of_lt_of_le hr4 hbD.size
          clear c0D c1D hbD hr4
          go_wp2_with fail
          refine (HF.out H2 p1 wD (by have := HZ2.out; omega) (by have := HSz.out; omega)).mono ?_
          rintro e wE ⟨hE, hbE⟩
          unfold FindIs at hE
          rw [HF2.out] at hE
          obtain ⟨x, rfl, hx⟩ := hE
          obtain ⟨T, u, rfl⟩ := hx.is.iface
          have HE := Lib.hid hx.is
          have c1F := (hbE.cell (p := ⟨r, 1, none⟩) hr5).trans c1E
          replace HB := Lib.hid (HB.out.trans (hbE.mono HB.out.size))
          clear hx hbE c0E c1E hr5
          go_wp2_with fail
          refine (is_err HE.out 8).mono ?_
          rintro e wG ⟨rfl, hw⟩
          rw [hw]
          clear hw
          go_wp2
          go_ret
          exact ⟨rfl, HB.out⟩
end Go.Proofs.Ytaniekpkcihpiaa
