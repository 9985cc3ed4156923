/-
  The document's Same of chapter 13. The conditions: the pairs lie where they are said to.
-/
import Derived.Test.YtaniekpkcihpiaaCookieLaws
import Derived.Deep.LoopGhost
namespace Go.Proofs.Ytaniekpkcihpiaa
open Go.RowKit TextNat CookieMath

def sameP (xs ys : List PairV) : Bool := decide (xs = ys)
theorem beq_text {a b : ByteArray} : (a.toList == b.toList) = decide (a = b) := by
  by_cases h : a = b
  · subst h
    simp
  · rw [decide_eq_false h]
    exact beq_eq_false_iff_ne.2 (text_list h)
/-- '!=' of two pairs. -/
theorem neq_pair (a b : PairV) (w : World) : (binOp .neq 24 (pairVal a) (pairVal b)).run Try.prog w = .ok (.bool (!decide (a = b))) w := by
  obtain ⟨a1, a2⟩ := a
  obtain ⟨b1, b2⟩ := b
  by_cases h1 : a1 = b1
  · subst h1
    by_cases h2 : a2 = b2
    · subst h2
      go_simp
    · have k := text_list h2
      go_simp
      all_goals simp_all
  · have k := text_list h1
    go_simp
    all_goals simp_all
theorem same_all {xs ys : List PairV} {i : Nat} (h : xs.take i = ys.take i) (h1 : xs.length ≤ i) (h2 : ys.length ≤ i) : sameP xs ys = true := by
  unfold sameP
  rw [List.take_of_length_le h1, List.take_of_length_le h2] at h
  rw [h]
  simp
theorem same_step {xs ys : List PairV} {i : Nat} {a : PairV} (h : xs.take i = ys.take i) (h1 : xs[i]? = some a) (h2 : ys[i]? = some a) : xs.take (i + 1) = ys.take (i + 1) := by
  rw [List.take_add_one, List.take_add_one, h, h1, h2]
theorem same_not {xs ys : List PairV} {i : Nat} {a b : PairV} (h1 : xs[i]? = some a) (h2 : ys[i]? = some b) (h : ¬ a = b) : sameP xs ys = false := by
  unfold sameP
  refine decide_eq_false fun he => h ?_
  rw [he, h2] at h1
  exact (Option.some.inj h1).symm
theorem drewN_below {B : Nat} {a w : World} (n : Nat) (h : Below B a w) : Below B a (w.drewN n) := ⟨h.os, h.tape, h.output, h.size, h.block⟩
set_option maxRecDepth 100000 in
set_option maxHeartbeats 4000000 in
theorem same_ok (pp qq : Option Addr) (c d : Nat) (xs ys : List PairV) (w : World) (hx : PairsIn w pp xs) (hy : PairsIn w qq ys) (hl : xs.length ≤ 9223372036854775807) (hl2 : ys.length ≤ 9223372036854775807) :
    Calls Try.prog 10 #[.slice pp xs.length c, .slice qq ys.length d] w fun e w' => e = .returned (.bool (sameP xs ys)) ∧ Below w.heap.size w w' := by
  obtain ⟨N, hN⟩ : ∃ N, N = xs.length := ⟨_, rfl⟩
  obtain ⟨M, hM⟩ : ∃ M, M = ys.length := ⟨_, rfl⟩
  rw [← hN] at hl ⊢
  rw [← hM] at hl2 ⊢
  have HN := Lib.hid hN
  have HM := Lib.hid hM
  have HX := Lib.hid hx
  have HY := Lib.hid hy
  clear hN hM hx hy
  by_cases hne : N = M
  · subst hne
    have HT0 := Lib.hid (show xs.take 0 = ys.take 0 from rfl)
    go_enter Try.func10, Try.ntmps10
    go_wp2
    go_loopg [5] N (fun gh s5 wx => ∃ i : Nat, i + gh = N ∧ s5 = .int .i64 (i : Int) ∧ Hid (xs.take i = ys.take i) ∧ Below w.heap.size w wx)
    case atStart => exact ⟨0, by omega, by go_num, HT0, Below.refl _ _⟩
    case round =>
      obtain ⟨i, hi, rfl, hT, hB⟩ := hrel
      have HB := Lib.hid hB
      by_cases hlt : i < N
      · have t1 : decide ((i : Int) < (N : Int)) = true := decide_eq_true (by omega)
        have t1' : decide (i < N) = true := decide_eq_true hlt
        obtain ⟨x, hx⟩ : ∃ x, xs[i]? = some x := ⟨_, List.getElem?_eq_getElem (by rw [← HN.out]; exact hlt)⟩
        obtain ⟨y, hy⟩ : ∃ y, ys[i]? = some y := ⟨_, List.getElem?_eq_getElem (by rw [← HM.out]; exact hlt)⟩
        obtain ⟨b1, o1, rfl⟩ := HX.out.addr (by rw [← HN.out]; omega)
        obtain ⟨b2, o2, rfl⟩ := HY.out.addr (by rw [← HM.out]; omega)
        obtain ⟨c0, c1⟩ := (HX.out.grown HB.out).look hx
        obtain ⟨d0, d1⟩ := (HY.out.grown HB.out).look hy
        have hq := fun w1 => neq_pair x y w1
        obtain ⟨x1, x2⟩ := x
        obtain ⟨y1, y2⟩ := y
        simp only at c0 c1 d0 d1
        by_cases he : ((x1, x2) : PairV) = (y1, y2)
        · have HS := Lib.hid (same_step hT.out hx (hy.trans (by rw [he])))
          rw [decide_eq_true he] at hq
          clear hx hy he hB hT
          go_wp2_with fail
          go_quiet (fail)
          go_wp2
          go_roundg (N - (i + 1))
          case measure => omega
          case rel => exact ⟨i + 1, by omega, by go_num, HS, drewN_below _ HB.out⟩
        · have HS := Lib.hid (same_not hx hy he)
          rw [decide_eq_false he] at hq
          clear hx hy he hB hT
          go_wp2_with fail
          go_quiet (fail)
          go_wp2
          go_ret
          exact ⟨by rw [HS.out]; rfl, drewN_below _ HB.out⟩
      · have t1 : decide ((i : Int) < (N : Int)) = false := decide_eq_false (by omega)
        have t1' : decide (i < N) = false := decide_eq_false hlt
        have HS := Lib.hid (same_all hT.out (by rw [← HN.out]; omega) (by rw [← HM.out]; omega))
        clear hT hB
        go_wp2
        go_ret
        exact ⟨by rw [HS.out]; rfl, HB.out⟩
  · have t1 : ((N : Int) == (M : Int)) = false := by rw [beq_eq_false_iff_ne]; omega
    have t2 : (N == M) = false := by rw [beq_eq_false_iff_ne]; exact hne
    have HS := Lib.hid (show sameP xs ys = false by
      unfold sameP
      refine decide_eq_false fun h => hne ?_
      rw [HN.out, HM.out, h])
    clear hl hl2
    go_enter Try.func10, Try.ntmps10
    go_wp2
    go_ret
    exact ⟨by rw [HS.out]; rfl, Below.refl _ _⟩
end Go.Proofs.Ytaniekpkcihpiaa
