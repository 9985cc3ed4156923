/-
  The contract of the document's own Trim of chapter 6. The conditions: the vector's cells; at most 1,000,000 counts.
-/
import Derived.Test.YtkdjfeaaojecdaaVecBase
import Derived.Deep.OwnRows
namespace Go.Proofs.Ytkdjfeaaojecdaa
open Go.RowKit

/-- Is there another count than 0 from the place i on, ahead of k? -/
def more_ (l : List Int) (i k : Nat) : Bool := !(((l.take k).drop i).all (· == 0))
theorem more_start (l : List Int) (i : Nat) : more_ l i i = false := by
  unfold more_
  rw [List.drop_eq_nil_of_le (by rw [List.length_take]; omega)]
  rfl
theorem more_step {l : List Int} {i k : Nat} {z : Int} (h : l[k]? = some z) (hi : i ≤ k) : more_ l i (k + 1) = (more_ l i k || !(z == 0)) := by
  have hk := (List.getElem?_eq_some_iff.1 h).1
  unfold more_
  rw [List.take_add_one, h, List.drop_append_of_le_length (by rw [List.length_take]; omega)]
  simp only [Option.toList, List.all_append, List.all_cons, List.all_nil, Bool.and_true, Bool.not_and]
theorem more_all {l : List Int} {i k : Nat} (h : l.length ≤ k) : more_ l i k = !((l.drop i).all (· == 0)) := by
  unfold more_
  rw [List.take_of_length_le h]
theorem trim_stop {l : List Int} {i : Nat} (h : (l.drop i).all (· == 0) = true) {D : List Int} (hD : VecMath.trim l = D ++ VecMath.trim (l.drop i)) : VecMath.trim l = D := by
  rw [hD, VecMath.trim_all h, List.append_nil]
theorem trim_on {l : List Int} {i : Nat} {x : Int} (hx : l[i]? = some x) (h : (l.drop i).all (· == 0) = false) {D : List Int} (hD : VecMath.trim l = D ++ VecMath.trim (l.drop i)) : VecMath.trim l = (D ++ [x]) ++ VecMath.trim (l.drop (i + 1)) := by
  have hi := (List.getElem?_eq_some_iff.1 hx).1
  have e : l.drop i = x :: l.drop (i + 1) := by rw [List.drop_eq_getElem_cons hi, (List.getElem?_eq_some_iff.1 hx).2]
  rw [e] at h hD
  rw [hD, VecMath.trim_cons h]
  simp
theorem NewVec.alloc {B : Nat} {w : World} {v : Value} {l : List Int} (h : NewVec B w v l) (o : Obj) : NewVec B (w.alloc o) v l := OwnsM.alloc h o
theorem NewVec.start {B : Nat} (w : World) (hB : B ≤ w.heap.size) : NewVec B (w.alloc (.cells #[] 3)) (.slice (some ⟨w.heap.size, 0, none⟩) 0 0) [] := OwnsM.of (World.ownsRow_made (base := B) (e := 3) (size := 1) w #[] 0 hB (by simp) (by simp))
theorem NewVec.more {B : Nat} {w' : World} {v' : Value} {D : List Int} {z : Int} (h : OwnsM w' B 3 v' (D.length + 1) (D.map (Value.int .i64) ++ [.int .i64 z])) : NewVec B w' v' (D ++ [z]) := by
  unfold NewVec
  rw [List.length_append, List.map_append]
  exact h
set_option maxRecDepth 100000 in
set_option maxHeartbeats 4000000 in
theorem refTrim (p : Option Addr) (c : Nat) (l : List Int) (w : World) (h : Ints w p l) (hl : l.length ≤ 1000000) :
    Calls Try.prog 15 #[.slice p l.length c] w fun e w' => (∃ v, e = .returned v ∧ NewVec w.heap.size w' v (VecMath.trim l)) ∧ Below w.heap.size w w' := by
  obtain ⟨ii, hii, hi0, hi1, hi2⟩ := info_parts info_int
  obtain ⟨N, hN⟩ : ∃ N, N = l.length := ⟨_, rfl⟩
  have HI := Lib.hid h
  have HN := Lib.hid hN
  rw [← hN] at hl ⊢
  clear h hN
  have HO := Lib.hid (NewVec.start (B := w.heap.size) w (Nat.le_refl _))
  have HB : Hid (Below w.heap.size w (w.alloc (.cells #[] 3))) := Lib.hid ((Below.refl _ _).alloc (Nat.le_refl _) _)
  go_enter Try.func15, Try.ntmps15
  go_wp2_with fail
  go_loopg [3, 4] N (fun gh s4 s5 wx => ∃ (i : Nat) (D : List Int), i + gh = N ∧ s5 = .int .i64 (i : Int) ∧ NewVec w.heap.size wx s4 D ∧ Hid (D.length = i) ∧ Hid (VecMath.trim l = D ++ VecMath.trim (l.drop i)) ∧ Below w.heap.size w wx)
  case atStart => exact ⟨0, [], by omega, by go_num, HO.out, Lib.hid rfl, Lib.hid rfl, HB.out⟩
  case round =>
    obtain ⟨i, D, hi, rfl, ho, HD, HT, hb⟩ := hrel
    have HOr := Lib.hid ho
    have HBr := Lib.hid hb
    obtain ⟨p4, c4, rfl⟩ := OwnsM.shape ho
    clear ho hb HO HB
    by_cases hiN : i < N
    · have t1 : decide ((i : Int) < (N : Int)) = true := decide_eq_true (by omega)
      have t1' : decide (i < N) = true := decide_eq_true hiN
      obtain ⟨x, hx⟩ : ∃ x, l[i]? = some x := ⟨_, List.getElem?_eq_getElem (by rw [← HN.out]; exact hiN)⟩
      obtain ⟨_, b, off, rfl, hcx⟩ := (HI.out.grown HBr.out) i x hx
      have HX := Lib.hid hx
      clear hx
      go_wp2_with fail
      go_loopg [5, 6] (N - i) (fun gh s6 s7 wx => ∃ k : Nat, k + gh = N ∧ i ≤ k ∧ s7 = .int .i64 (k : Int) ∧ s6 = .bool (more_ l i k) ∧ wx = wr)
      case atStart => exact ⟨i, by omega, Nat.le_refl _, by go_num, by rw [more_start], rfl⟩
      case round =>
        obtain ⟨k, hk, hik, rfl, rfl, rfl⟩ := hrel
        obtain ⟨m, hm⟩ : ∃ m, m = more_ l i k := ⟨_, rfl⟩
        rw [← hm]
        have HM := Lib.hid hm
        clear hm
        by_cases hkN : k < N
        · have q1 : decide ((k : Int) < (N : Int)) = true := decide_eq_true (by omega)
          have q1' : decide (k < N) = true := decide_eq_true hkN
          obtain ⟨z, hz⟩ : ∃ z, l[k]? = some z := ⟨_, List.getElem?_eq_getElem (by rw [← HN.out]; exact hkN)⟩
          obtain ⟨_, b2, off2, hp2, hcz⟩ := (HI.out.grown HBr.out) k z hz
          obtain ⟨rfl, rfl⟩ : b2 = b ∧ off2 = off := by simpa using hp2.symm
          have HS := Lib.hid (more_step (i := i) hz hik)
          clear hz hp2
          cases m with
          | true =>
            go_wp2
            go_roundg (N - (k + 1))
            case measure => omega
            case rel => exact ⟨k + 1, by omega, by omega, by go_num, by rw [HS.out, ← HM.out]; rfl, rfl⟩
          | false =>
            by_cases hz0 : z = 0
            · have q2 : (z == 0) = true := by rw [beq_iff_eq]; exact hz0
              have q3 : (z != 0) = false := by rw [bne, q2]; rfl
              go_wp2
              go_roundg (N - (k + 1))
              case measure => omega
              case rel => exact ⟨k + 1, by omega, by omega, by go_num, by rw [HS.out, ← HM.out, q2]; rfl, rfl⟩
            · have q2 : (z == 0) = false := by rw [beq_eq_false_iff_ne]; exact hz0
              have q3 : (z != 0) = true := by rw [bne, q2]; rfl
              go_wp2
              go_roundg (N - (k + 1))
              case measure => omega
              case rel => exact ⟨k + 1, by omega, by omega, by go_num, by rw [HS.out, ← HM.out, q2]; rfl, rfl⟩
        · have q1 : decide ((k : Int) < (N : Int)) = false := decide_eq_false (by omega)
          have q1' : decide (k < N) = false := decide_eq_false hkN
          have HA := Lib.hid (show more_ l i k = !((l.drop i).all (· == 0)) from more_all (by rw [← HN.out]; omega))
          cases m with
          | false =>
            have HE := Lib.hid (show VecMath.trim l = D from trim_stop (by have := HA.out; rw [← HM.out] at this; simpa using this) HT.out)
            go_wp2
            go_ret
            exact ⟨⟨_, rfl, by rw [HE.out]; exact HOr.out⟩, HBr.out⟩
          | true =>
            have HE := Lib.hid (show VecMath.trim l = (D ++ [x]) ++ VecMath.trim (l.drop (i + 1)) from trim_on HX.out (by have := HA.out; rw [← HM.out] at this; simpa using this) HT.out)
            have HO2 := Lib.hid (HOr.out.alloc (.cells #[.int .i64 x] 3))
            have HB2 := Lib.hid (HBr.out.alloc HBr.out.size (.cells #[.int .i64 x] 3))
            have hD := HD.out
            go_wp2_with (at_builtin; refine wpList_append_m rfl _ _ 22 rfl w.heap.size 3 ii (.int .i64 0) 8 Try.underlying22 hii hi0 hi1 hi2 rfl _ _ _ rfl HO2.out ⟨_, 0, none⟩ 1 1 [.int .i64 x] rfl rfl (one_put _ _ _ _ (by simp)) (fun u hu => by simp at hu; subst hu; rfl) (by unfold maxLen; omega) (by omega) HB2.out.size ?_; intro v2 w4 hown2 hgrow2)
            go_roundg (N - (i + 1))
            case measure => omega
            case rel => exact ⟨i + 1, D ++ [x], by omega, by go_num, NewVec.more (by rw [hD]; rw [hD] at hown2; exact hown2), Lib.hid (by rw [List.length_append, hD]; rfl), HE, HB2.out.grown hgrow2 HB2.out.size (fun q hq => (OwnsM.lt HO2.out q hq).1)⟩
    · have t1 : decide ((i : Int) < (N : Int)) = false := decide_eq_false (by omega)
      have t1' : decide (i < N) = false := decide_eq_false hiN
      have HE := Lib.hid (show VecMath.trim l = D by rw [HT.out, List.drop_eq_nil_of_le (by rw [← HN.out]; omega)]; exact List.append_nil D)
      go_wp2
      go_ret
      exact ⟨⟨_, rfl, by rw [HE.out]; exact HOr.out⟩, HBr.out⟩
end Go.Proofs.Ytkdjfeaaojecdaa
