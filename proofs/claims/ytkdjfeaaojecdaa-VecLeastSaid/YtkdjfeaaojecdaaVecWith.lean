/-
  The contract of the document's own With of chapter 6. The conditions: the vector's cells; at most 10,000 counts; the numbers are Go's.
-/
import Derived.Test.YtkdjfeaaojecdaaVecTrim
namespace Go.Proofs.Ytkdjfeaaojecdaa
open Go.RowKit

/-- The counts, another one at the place k. -/
def other (l : List Int) (k : Nat) (n : Int) (i : Nat) : Int := if i = k then n else VecMath.cnt l i
theorem other_fits {l : List Int} {n : Int} (hf : Fits l) (hn : -9223372036854775808 ≤ n ∧ n ≤ 9223372036854775807) (k m : Nat) : Fits (VecMath.made m (other l k n)) := fun z hz => by
  unfold VecMath.made at hz
  obtain ⟨i, _, rfl⟩ := List.mem_map.1 hz
  unfold other
  split
  · exact hn
  · exact hf.cnt i
theorem NewVec.weaken {B B' : Nat} {w : World} {v : Value} {l : List Int} (h : NewVec B w v l) (hb : B' ≤ B) : NewVec B' w v l := OwnsM.weaken h hb
theorem NewVec.grown {B : Nat} {w w' : World} {v : Value} {l : List Int} (h : NewVec B w v l) (hb : Below w.heap.size w w') : NewVec B w' v l := OwnsM.below h hb fun k hk => (OwnsM.lt h k hk).2
theorem NewVec.drewN {B : Nat} {w : World} {v : Value} {l : List Int} (h : NewVec B w v l) (d : Nat) : NewVec B (w.drewN d) v l := OwnsM.drewN h d
theorem below_drewN' {B : Nat} {a w : World} (n : Nat) (h : Below B a w) : Below B a (w.drewN n) := ⟨h.os, h.tape, h.output, h.size, h.block⟩
set_option maxRecDepth 100000 in
set_option maxHeartbeats 4000000 in
theorem refWith (p : Option Addr) (c : Nat) (l : List Int) (r n : Int) (w : World) (h : Ints w p l) (hl : l.length ≤ 10000) (hn : -9223372036854775808 ≤ n ∧ n ≤ 9223372036854775807) :
    Calls Try.prog 16 #[.slice p l.length c, .int .i64 r, .int .i64 n] w fun e w' => (∃ v, e = .returned v ∧ NewVec w.heap.size w' v (VecMath.with_ l r n)) ∧ Below w.heap.size w w' := by
  obtain ⟨ii, hii, hi0, hi1, hi2⟩ := info_parts info_int
  have HTv := Lib.hid (refTrim p c l w h (by omega))
  have HF := Lib.hid (h.fits)
  have HI := Lib.hid h
  have hl63 : l.length ≤ 9223372036854775807 := by omega
  have HAt := Lib.hid (fun r w1 (hb : Below w.heap.size w w1) => refAt p c l r w1 (h.grown hb) hl63)
  obtain ⟨N, hN⟩ : ∃ N, N = l.length := ⟨_, rfl⟩
  have HN := Lib.hid hN
  rw [← hN] at hl HTv HAt ⊢
  clear h hN hl63
  by_cases h1 : 1 ≤ r
  · by_cases h2 : r ≤ 16
    · have t1 : decide (r < 1) = false := decide_eq_false (by omega)
      have t2 : decide (16 < r) = false := decide_eq_false (by omega)
      obtain ⟨R, hR⟩ : ∃ R : Nat, r = (R : Int) := ⟨r.toNat, by omega⟩
      subst hR
      have HW := Lib.hid (show VecMath.with_ l (R : Int) n = VecMath.trim (VecMath.made (max N R) (other l (R - 1) n)) from by
        unfold VecMath.with_ VecMath.withN
        rw [if_pos ⟨h1, h2⟩, HN.out, show ((R : Int).toNat - 1) = R - 1 by omega, show R - 1 + 1 = R by omega]
        rfl)
      have HFo := Lib.hid (fun m => other_fits HF.out hn (R - 1) m)
      have HO := Lib.hid (NewVec.start (B := w.heap.size) w (Nat.le_refl _))
      have HB : Hid (Below w.heap.size w (w.alloc (.cells #[] 3))) := Lib.hid ((Below.refl _ _).alloc (Nat.le_refl _) _)
      have hR1 : 1 ≤ R := by omega
      have hR2 : R ≤ 16 := by omega
      clear HTv
      go_enter Try.func16, Try.ntmps16
      go_wp2_with fail
      go_loopg [7, 8] (max N R) (fun gh s7 s8 wx => ∃ K : Nat, K + gh = max N R + 1 ∧ 1 ≤ K ∧ s8 = .int .i64 (K : Int) ∧ NewVec w.heap.size wx s7 (VecMath.made (K - 1) (other l (R - 1) n)) ∧ Below w.heap.size w wx)
      case atStart => exact ⟨1, by omega, by omega, by go_num, HO.out, HB.out⟩
      case round =>
        obtain ⟨K, hK, hK1, rfl, ho, hb⟩ := hrel
        obtain ⟨D, hD⟩ : ∃ D, D = VecMath.made (K - 1) (other l (R - 1) n) := ⟨_, rfl⟩
        rw [← hD] at ho
        have HOr := Lib.hid ho
        have HBr := Lib.hid hb
        have HDq := Lib.hid hD
        have hdl : D.length = K - 1 := by rw [hD]; exact VecMath.made_len _ _
        have HDl := Lib.hid hdl
        have hdb : D.length ≤ 20000 := by omega
        clear hdl
        clear hD
        obtain ⟨p4, c4, rfl⟩ := OwnsM.shape ho
        clear ho hb HO HB
        by_cases hKN : K ≤ N
        · skip
          have t3 : decide ((K : Int) ≤ (N : Int)) = true := decide_eq_true (by omega)
          have t3' : decide (K ≤ N) = true := decide_eq_true hKN
          by_cases hkr : K = R
          · have t5 : ((K : Int) == (R : Int)) = true := by rw [beq_iff_eq]; omega
            have HKr := Lib.hid hkr
            clear hkr
            have HO2 := Lib.hid (HOr.out.alloc (.cells #[.int .i64 n] 3))
            have HB2 := Lib.hid (HBr.out.alloc HBr.out.size (.cells #[.int .i64 n] 3))
            have HE := Lib.hid (show VecMath.made K (other l (R - 1) n) = D ++ [n] from by
              rw [HDq.out]
              obtain ⟨q, rfl⟩ : ∃ q, K = q + 1 := ⟨K - 1, by omega⟩
              rw [VecMath.made_succ, Nat.add_sub_cancel]
              unfold other
              rw [if_pos (show q = R - 1 by have := HKr.out; omega)])
            go_wp2_with (at_builtin; refine wpList_append_m rfl _ _ 22 rfl w.heap.size 3 ii (.int .i64 0) 8 Try.underlying22 hii hi0 hi1 hi2 rfl _ _ _ rfl HO2.out ⟨_, 0, none⟩ 1 1 [.int .i64 n] rfl rfl (one_put _ _ _ _ (by simp)) (fun u hu => by simp at hu; subst hu; rfl) (by unfold maxLen; omega) (by omega) HB2.out.size ?_; intro v2 w4 hown2 hgrow2)
            go_roundg (max N R - K)
            case measure => omega
            case rel => exact ⟨K + 1, by omega, by omega, by go_num, by rw [Nat.add_sub_cancel, HE.out]; exact NewVec.more (by rw [HDl.out]; rw [HDl.out] at hown2; exact hown2), HB2.out.grown hgrow2 HB2.out.size (fun q hq => (OwnsM.lt HO2.out q hq).1)⟩
          · have t5 : ((K : Int) == (R : Int)) = false := by rw [beq_eq_false_iff_ne]; omega
            have HKr := Lib.hid hkr
            clear hkr
            have HE := Lib.hid (show VecMath.made K (other l (R - 1) n) = D ++ [VecMath.at_ l (K : Int)] from by
              rw [HDq.out]
              obtain ⟨q, rfl⟩ : ∃ q, K = q + 1 := ⟨K - 1, by omega⟩
              rw [VecMath.made_succ, Nat.add_sub_cancel, VecMath.at_nat]
              unfold other
              rw [if_neg (show ¬ q = R - 1 by have := HKr.out; omega)])
            go_wp2_with (first
              | (go_at_call 12; refine (HAt.out _ _ HBr.out).mono ?_; rintro e w2 ⟨rfl, hw2⟩; rw [hw2]; clear hw2; have HO2 := Lib.hid (HOr.out.alloc (.cells #[.int .i64 (VecMath.at_ l (K : Int))] 3)); have HB2 := Lib.hid (HBr.out.alloc HBr.out.size (.cells #[.int .i64 (VecMath.at_ l (K : Int))] 3)))
              | (at_builtin; refine wpList_append_m rfl _ _ 22 rfl w.heap.size 3 ii (.int .i64 0) 8 Try.underlying22 hii hi0 hi1 hi2 rfl _ _ _ rfl HO2.out ⟨_, 0, none⟩ 1 1 [.int .i64 (VecMath.at_ l (K : Int))] rfl rfl (one_put _ _ _ _ (by simp)) (fun u hu => by simp at hu; subst hu; rfl) (by unfold maxLen; omega) (by omega) HB2.out.size ?_; intro v2 w4 hown2 hgrow2))
            go_roundg (max N R - K)
            case measure => omega
            case rel => exact ⟨K + 1, by omega, by omega, by go_num, by rw [Nat.add_sub_cancel, HE.out]; exact NewVec.more (by rw [HDl.out]; rw [HDl.out] at hown2; exact hown2), HB2.out.grown hgrow2 HB2.out.size (fun q hq => (OwnsM.lt HO2.out q hq).1)⟩
        · have t3 : decide ((K : Int) ≤ (N : Int)) = false := decide_eq_false (by omega)
          have t3' : decide (K ≤ N) = false := decide_eq_false hKN
          by_cases hKR : K ≤ R
          · skip
            have t4 : decide ((K : Int) ≤ (R : Int)) = true := decide_eq_true (by omega)
            have t4' : decide (K ≤ R) = true := decide_eq_true hKR
            by_cases hkr : K = R
            · have t5 : ((K : Int) == (R : Int)) = true := by rw [beq_iff_eq]; omega
              have HKr := Lib.hid hkr
              clear hkr
              have HO2 := Lib.hid (HOr.out.alloc (.cells #[.int .i64 n] 3))
              have HB2 := Lib.hid (HBr.out.alloc HBr.out.size (.cells #[.int .i64 n] 3))
              have HE := Lib.hid (show VecMath.made K (other l (R - 1) n) = D ++ [n] from by
                rw [HDq.out]
                obtain ⟨q, rfl⟩ : ∃ q, K = q + 1 := ⟨K - 1, by omega⟩
                rw [VecMath.made_succ, Nat.add_sub_cancel]
                unfold other
                rw [if_pos (show q = R - 1 by have := HKr.out; omega)])
              go_wp2_with (at_builtin; refine wpList_append_m rfl _ _ 22 rfl w.heap.size 3 ii (.int .i64 0) 8 Try.underlying22 hii hi0 hi1 hi2 rfl _ _ _ rfl HO2.out ⟨_, 0, none⟩ 1 1 [.int .i64 n] rfl rfl (one_put _ _ _ _ (by simp)) (fun u hu => by simp at hu; subst hu; rfl) (by unfold maxLen; omega) (by omega) HB2.out.size ?_; intro v2 w4 hown2 hgrow2)
              go_roundg (max N R - K)
              case measure => omega
              case rel => exact ⟨K + 1, by omega, by omega, by go_num, by rw [Nat.add_sub_cancel, HE.out]; exact NewVec.more (by rw [HDl.out]; rw [HDl.out] at hown2; exact hown2), HB2.out.grown hgrow2 HB2.out.size (fun q hq => (OwnsM.lt HO2.out q hq).1)⟩
            · have t5 : ((K : Int) == (R : Int)) = false := by rw [beq_eq_false_iff_ne]; omega
              have HKr := Lib.hid hkr
              clear hkr
              have HE := Lib.hid (show VecMath.made K (other l (R - 1) n) = D ++ [VecMath.at_ l (K : Int)] from by
                rw [HDq.out]
                obtain ⟨q, rfl⟩ : ∃ q, K = q + 1 := ⟨K - 1, by omega⟩
                rw [VecMath.made_succ, Nat.add_sub_cancel, VecMath.at_nat]
                unfold other
                rw [if_neg (show ¬ q = R - 1 by have := HKr.out; omega)])
              go_wp2_with (first
                | (go_at_call 12; refine (HAt.out _ _ HBr.out).mono ?_; rintro e w2 ⟨rfl, hw2⟩; rw [hw2]; clear hw2; have HO2 := Lib.hid (HOr.out.alloc (.cells #[.int .i64 (VecMath.at_ l (K : Int))] 3)); have HB2 := Lib.hid (HBr.out.alloc HBr.out.size (.cells #[.int .i64 (VecMath.at_ l (K : Int))] 3)))
                | (at_builtin; refine wpList_append_m rfl _ _ 22 rfl w.heap.size 3 ii (.int .i64 0) 8 Try.underlying22 hii hi0 hi1 hi2 rfl _ _ _ rfl HO2.out ⟨_, 0, none⟩ 1 1 [.int .i64 (VecMath.at_ l (K : Int))] rfl rfl (one_put _ _ _ _ (by simp)) (fun u hu => by simp at hu; subst hu; rfl) (by unfold maxLen; omega) (by omega) HB2.out.size ?_; intro v2 w4 hown2 hgrow2))
              go_roundg (max N R - K)
              case measure => omega
              case rel => exact ⟨K + 1, by omega, by omega, by go_num, by rw [Nat.add_sub_cancel, HE.out]; exact NewVec.more (by rw [HDl.out]; rw [HDl.out] at hown2; exact hown2), HB2.out.grown hgrow2 HB2.out.size (fun q hq => (OwnsM.lt HO2.out q hq).1)⟩
          · have t4 : decide ((K : Int) ≤ (R : Int)) = false := decide_eq_false (by omega)
            have t4' : decide (K ≤ R) = false := decide_eq_false hKR
            obtain ⟨p5, c5, hv, hints, _⟩ := NewVec.slice HOr.out (by rw [HDq.out]; exact HFo.out _)
            have HTr := Lib.hid (refTrim p5 c5 _ wr hints (by rw [HDl.out]; omega))
            have HE := Lib.hid (show D = VecMath.made (max N R) (other l (R - 1) n) by rw [HDq.out]; congr 1; omega)
            obtain ⟨hp5, hc5⟩ : p4 = p5 ∧ c4 = c5 := by simpa using hv
            subst hp5 hc5
            clear hv hints
            go_wp2_with (go_at_call 15; refine HTr.out.mono ?_; rintro e w2 ⟨⟨v, rfl, hv⟩, hb⟩)
            go_ret
            exact ⟨⟨_, rfl, by rw [HW.out, ← HE.out]; exact hv.weaken HBr.out.size⟩, HBr.out.trans (hb.mono HBr.out.size)⟩
    · have t1 : decide (r < 1) = false := decide_eq_false (by omega)
      have t2 : decide (16 < r) = true := decide_eq_true (by omega)
      have HW := Lib.hid (show VecMath.with_ l r n = VecMath.trim l from by unfold VecMath.with_; rw [if_neg (fun h => h2 h.2)])
      go_enter Try.func16, Try.ntmps16
      go_wp2_with (go_at_call 15; refine HTv.out.mono ?_; rintro e w2 ⟨⟨v, rfl, hv⟩, hb⟩)
      go_ret
      exact ⟨⟨_, rfl, by rw [HW.out]; exact hv⟩, hb⟩
  · have t1 : decide (r < 1) = true := decide_eq_true (by omega)
    have HW := Lib.hid (show VecMath.with_ l r n = VecMath.trim l from by unfold VecMath.with_; rw [if_neg (fun h => h1 h.1)])
    go_enter Try.func16, Try.ntmps16
    go_wp2_with (go_at_call 15; refine HTv.out.mono ?_; rintro e w2 ⟨⟨v, rfl, hv⟩, hb⟩)
    go_ret
    exact ⟨⟨_, rfl, by rw [HW.out]; exact hv⟩, hb⟩
end Go.Proofs.Ytkdjfeaaojecdaa
