/-
  Texts of one claim, merged.
  StoreTwo: Two stores of one's own beside each other. No conditions but those typed.
  StorePlain: Plain of chapter 16's laws: rows as the document has them. The conditions: the rows lie in memory; at most 50,000.
-/
import Derived.Test.YtgbhfhnbmgkaoaaPart15
import Derived.Test.YtgbhfhnbmgkaoaaPart09
namespace Go.Proofs.Ytgbhfhnbmgkaoaa
open Go.RowKit TextNat RegMath

/-- Two stores of one's own that share no block, and all that was before them as it was. -/
def Two16 (D : Sto) (w0 w : World) (a : Nat) (xs : List RowV) (b : Nat) (ys : List RowV) : Prop :=
  (∃ S T, D.at_ w a S xs ∧ D.at_ w b T ys ∧ (∀ k, S k → w0.heap.size ≤ k ∧ ¬ T k) ∧ (∀ k, T k → w0.heap.size ≤ k)) ∧ Below w0.heap.size w0 w
theorem Two16.swap {D : Sto} {w0 w : World} {a b : Nat} {xs ys : List RowV} (h : Two16 D w0 w a xs b ys) : Two16 D w0 w b ys a xs := by
  obtain ⟨⟨S, T, h1, h2, h3, h4⟩, h5⟩ := h
  exact ⟨⟨T, S, h2, h1, fun k hk => ⟨h4 k hk, fun e => (h3 k e).2 hk⟩, fun k hk => (h3 k hk).1⟩, h5⟩
theorem Two16.below {D : Sto} {w0 w w' : World} {a b : Nat} {xs ys : List RowV} (h : Two16 D w0 w a xs b ys) (hb : Below w.heap.size w w') : Two16 D w0 w' a xs b ys := by
  obtain ⟨⟨S, T, h1, h2, h3, h4⟩, h5⟩ := h
  exact ⟨⟨S, T, D.stays h1 hb.size fun k hk => hb.block k (D.lt h1 k hk), D.stays h2 hb.size fun k hk => hb.block k (D.lt h2 k hk), h3, h4⟩, h5.trans (hb.mono h5.size)⟩
theorem Two16.left {D : Sto} {w0 w : World} {a b : Nat} {xs ys : List RowV} (h : Two16 D w0 w a xs b ys) : OwnSto D w0 w a xs := by
  obtain ⟨⟨S, T, h1, h2, h3, h4⟩, h5⟩ := h
  exact ⟨⟨S, h1, fun k hk => (h3 k hk).1⟩, h5⟩
/-- A call of the first one leaves the other one as it is. -/
theorem Two16.does {D : Sto} {w0 w : World} {a b : Nat} {xs ys : List RowV} (h : Two16 D w0 w a xs b ys) : ∃ S, D.at_ w a S xs ∧ ∀ (w' : World) (zs : List RowV), DoesS D w a S zs w' → Two16 D w0 w' a zs b ys := by
  obtain ⟨⟨S, T, h1, h2, h3, h4⟩, h5⟩ := h
  refine ⟨S, h1, fun w' zs ⟨⟨S', k1, k2⟩, k3⟩ => ⟨⟨S', T, k1, D.stays h2 k3.size fun k hk => k3.block k (D.lt h2 k hk) fun e => (h3 k e).2 hk, fun k hk => ?_, h4⟩, ⟨k3.os.trans h5.os, k3.tape.trans h5.tape, k3.output.trans h5.output, Nat.le_trans h5.size k3.size, fun k hk => ?_⟩⟩⟩
  · rcases k2 k hk with e | e
    · exact h3 k e
    · exact ⟨Nat.le_trans h5.size e, fun t => by have := D.lt h2 k t; omega⟩
  · refine (k3.block k (Nat.lt_of_lt_of_le hk h5.size) fun e => ?_).trans (h5.block k hk)
    have := (h3 k e).1
    omega
theorem new_two {D : Sto} (hP : Store16 D) {w0 w : World} {a : Nat} {xs : List RowV} (h : OwnSto D w0 w a xs) : Calls Try.prog 11 #[] w fun e w' => ∃ b, e = .returned (ptr16 b) ∧ Two16 D w0 w' a xs b [] := by
  refine (hP.new w).mono ?_
  rintro e w' ⟨⟨b, T, rfl, h1, h2⟩, h3⟩
  obtain ⟨⟨S, k1, k2⟩, k3⟩ := h
  exact ⟨b, rfl, ⟨S, T, D.stays k1 h3.size fun k hk => h3.block k (D.lt k1 k hk), h1, fun k hk => ⟨k2 k hk, fun t => by have := D.lt k1 k hk; have := h2 k t; omega⟩, fun k hk => Nat.le_trans k3.size (h2 k hk)⟩, k3.trans (h3.mono k3.size)⟩
theorem apply_two {D : Sto} (hP : Store16 D) {w0 w : World} {a b : Nat} {xs ys : List RowV} (h : Two16 D w0 w a xs b ys) (hs : Short xs) (hn : xs.length ≤ 900) (y : WriteV) (hy : y.short w) :
    Calls Try.prog 12 #[ptr16 a, y.val] w fun e w' => e = .returned (.bool (applyV xs y).2) ∧ Two16 D w0 w' a (applyV xs y).1 b ys := by
  obtain ⟨S, h1, h2⟩ := h.does
  refine (hP.apply a S xs y w h1 hs hn hy).mono ?_
  rintro e w' ⟨rfl, h3⟩
  exact ⟨rfl, h2 _ _ h3⟩
theorem sweep_two {D : Sto} (hW : Sweep16 D) {w0 w : World} {a b : Nat} {xs ys : List RowV} (h : Two16 D w0 w a xs b ys) (hs : Short xs) (f : Int) :
    Calls Try.prog 14 #[ptr16 a, .int .i64 f] w fun e w' => e = .returned (.int .i64 ((xs.length : Int) - ((sweepV xs f).length : Int))) ∧ Two16 D w0 w' a (sweepV xs f) b ys := by
  obtain ⟨S, h1, h2⟩ := h.does
  refine (hW a S xs f w h1 hs).mono ?_
  rintro e w' ⟨rfl, h3⟩
  exact ⟨rfl, h2 _ _ h3⟩
end Go.Proofs.Ytgbhfhnbmgkaoaa
namespace Go.Proofs.Ytgbhfhnbmgkaoaa
open Go.RowKit TextNat RegMath

set_option maxRecDepth 100000 in
set_option maxHeartbeats 4000000 in
theorem plain16 (pp : Option Addr) (c : Nat) (xs : List RowV) (w : World) (h : RowsIn w pp xs) (hn : xs.length ≤ 50000) :
    Calls Try.prog 18 #[.slice pp xs.length c] w fun e w' => (∃ v, e = .returned v ∧ OwnS 78 w' w.heap.size v xs) ∧ Below w.heap.size w w' := by
  obtain ⟨N, hN⟩ : ∃ N, N = xs.length := ⟨_, rfl⟩
  have HN := Lib.hid hN
  have HI := Lib.hid h
  rw [← hN] at hn ⊢
  clear h hN
  go_enter Try.func18, Try.ntmps18
  go_wp2_with fail
  go_loopg [3, 8] N (fun gh s3 s8 wx => ∃ i : Nat, i + gh = N ∧ s8 = .int .i64 (i : Int) ∧ Hid (OwnS 78 wx w.heap.size s3 (xs.take i)) ∧ Hid (Below w.heap.size w wx))
  case atStart => exact ⟨0, by omega, by go_num, Lib.hid (OwnS.nil _ _ _), Lib.hid (Below.refl _ _)⟩
  case round =>
    obtain ⟨i, hi, rfl, HO, HB⟩ := hrel
    rename World => W1
    by_cases hlt : i < N
    · have t1 : decide ((i : Int) < (N : Int)) = true := decide_eq_true (by omega)
      have t1' : decide (i < N) = true := decide_eq_true hlt
      have q0 : (i : Int) < (N : Int) := by omega
      obtain ⟨x, hx⟩ : ∃ x, xs[i]? = some x := ⟨_, List.getElem?_eq_getElem (by rw [← HN.out]; exact hlt)⟩
      obtain ⟨b1, o1, rfl⟩ := HI.out.addr (by rw [← HN.out]; omega)
      obtain ⟨d0, d1, d2, d3, d4, d5, d6⟩ := (HI.out.grown HB.out).look hx
      have HX := Lib.hid hx
      have HIn := Lib.hid (And.intro hi hlt)
      have HT := Lib.hid (show xs.take (i + 1) = xs.take i ++ [x] by rw [List.take_add_one, hx]; rfl)
      have HLn := Lib.hid (show (xs.take i).length ≤ 50000 by rw [List.length_take]; omega)
      have al2 : Below W1.heap.size W1 ((W1.alloc (.cells x.cells.toArray 50)).alloc (.cells x.cells.toArray 78)) := ((Below.refl _ _).alloc (Nat.le_refl _) _).alloc (by simp) _
      have hone := one_rows (Lies.new (W1.alloc (.cells x.cells.toArray 50)) x.cells 78)
      rw [show (W1.alloc (.cells x.cells.toArray 50)).heap.size = W1.heap.size + 1 by simp] at hone
      have HON := Lib.hid hone
      have HBa := Lib.hid (HB.out.trans (al2.mono HB.out.size))
      have HOa := Lib.hid (HO.out.below al2)
      obtain ⟨A, hA⟩ : ∃ A, A = xs.take i := ⟨_, rfl⟩
      rw [← hA] at HO HT HLn HOa
      obtain ⟨p5, c5, hs5, _, _⟩ := HO.out.shape
      subst hs5
      clear hone al2 hA
      obtain ⟨xs1, xk, ⟨xt, xr, xv, xg, xl⟩⟩ := x
      simp only [RowV.cells] at d0 d1 d2 d3 d4 d5 d6 HON HBa HOa
      clear hx hi hlt
      go_wp2_with (at_builtin; refine app_rows rfl _ _ 28 78 info_refrow Try.underlying28 rfl w.heap.size _ _ [_] rfl HOa.out (some ⟨W1.heap.size + 1, 0, none⟩) 1 1 rfl rfl HON.out (by have := HLn.out; show _ + 1 ≤ 100000; omega) HBa.out.size ?_; intro v5 w5 h1 h2 _ _; have HO5 := Lib.hid h1; have HB5 := Lib.hid (HBa.out.trans h2); clear h1 h2)
      go_roundg (N - (i + 1))
      case measure => have := HIn.out; omega
      case rel => exact ⟨i + 1, by have := HIn.out; omega, by go_num, by rw [HT.out]; exact HO5, HB5⟩
    · have t1 : decide ((i : Int) < (N : Int)) = false := decide_eq_false (by omega)
      have t1' : decide (i < N) = false := decide_eq_false hlt
      have HT := Lib.hid (show xs.take i = xs from List.take_of_length_le (by rw [← HN.out]; omega))
      rw [HT.out] at HO
      clear hlt hi
      go_wp2
      go_ret
      exact ⟨⟨_, rfl, HO.out⟩, HB.out⟩
end Go.Proofs.Ytgbhfhnbmgkaoaa
