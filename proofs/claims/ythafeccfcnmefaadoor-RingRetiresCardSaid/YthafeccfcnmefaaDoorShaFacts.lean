/-
  What the machine's words come to in one step of SHA-256's schedule and in one round, as facts on 'bits' and 'wrap' with a number of its own for each: for whatever program. The conditions: all words are below 2^32.
-/
import Derived.Test.YthafeccfcnmefaaDoorShaMath
import Derived.Laws.BitsAllLaws
namespace Go.Proofs.YthafeccfcnmefaaDoor
open ShaMath

/-- One step of the schedule: v14, v9, v1, v0 are the words 2, 7, 15, 16 places back. -/
structure SchedFacts (v14 v9 v1 v0 x1 x2 x3 x4 y1 y2 y3 y4 z1 z2 z3 : Nat) : Prop where
  ex1 : x1 = ShaMath.rotr v14 17
  ex2 : x2 = ShaMath.rotr v14 19
  ey1 : y1 = ShaMath.rotr v1 7
  ey2 : y2 = ShaMath.rotr v1 18
  f1 : bits .xor .u32 (x1 : Int) (x2 : Int) = (x3 : Int)
  f2 : bits .xor .u32 (x3 : Int) ((v14 : Int) / 1024) = (x4 : Int)
  f3 : bits .xor .u32 (y1 : Int) (y2 : Int) = (y3 : Int)
  f4 : bits .xor .u32 (y3 : Int) ((v1 : Int) / 8) = (y4 : Int)
  f5 : IntKind.u32.wrap ((x4 : Int) + (v9 : Int)) = (z1 : Int)
  f6 : IntKind.u32.wrap ((z1 : Int) + (y4 : Int)) = (z2 : Int)
  f7 : IntKind.u32.wrap ((z2 : Int) + (v0 : Int)) = (z3 : Int)
  out : (small1 v14 + v9 + small0 v1 + v0) % 4294967296 = z3
theorem sched_facts (v14 v9 v1 v0 : Nat) (l14 : v14 < 4294967296) (l1 : v1 < 4294967296) : ∃ x1 x2 x3 x4 y1 y2 y3 y4 z1 z2 z3, SchedFacts v14 v9 v1 v0 x1 x2 x3 x4 y1 y2 y3 y4 z1 z2 z3 := by
  refine ⟨ShaMath.rotr v14 17, ShaMath.rotr v14 19, ShaMath.rotr v14 17 ^^^ ShaMath.rotr v14 19, small1 v14, ShaMath.rotr v1 7, ShaMath.rotr v1 18, ShaMath.rotr v1 7 ^^^ ShaMath.rotr v1 18, small0 v1, (small1 v14 + v9) % 4294967296, ((small1 v14 + v9) % 4294967296 + small0 v1) % 4294967296, (((small1 v14 + v9) % 4294967296 + small0 v1) % 4294967296 + v0) % 4294967296, rfl, rfl, rfl, rfl, ?_, ?_, ?_, ?_, ?_, ?_, ?_, ?_⟩
  · exact u32_xor_nat _ _ (rotr_lt l14) (rotr_lt l14)
  · exact u32_xor_nat _ (v14 / 1024) (xlt (rotr_lt l14) (rotr_lt l14)) (by omega)
  · exact u32_xor_nat _ _ (rotr_lt l1) (rotr_lt l1)
  · exact u32_xor_nat _ (v1 / 8) (xlt (rotr_lt l1) (rotr_lt l1)) (by omega)
  · rw [IntKind.wrap_u32']; omega
  · rw [IntKind.wrap_u32']; omega
  · rw [IntKind.wrap_u32']; omega
  · omega

/-- One round, its words a to h, the constant k and the word w. -/
structure RoundFacts (a b c d e f g h k w x1 x2 x3 x4 x5 a1 q1 ne q2 q3 a2 a3 a4 y1 y2 y3 y4 y5 m1 m2 m3 m4 m5 a5 ee aa : Nat) : Prop where
  ex1 : x1 = ShaMath.rotr e 6
  ex2 : x2 = ShaMath.rotr e 11
  ex4 : x4 = ShaMath.rotr e 25
  ey1 : y1 = ShaMath.rotr a 2
  ey2 : y2 = ShaMath.rotr a 13
  ey4 : y4 = ShaMath.rotr a 22
  f1 : bits .xor .u32 (x1 : Int) (x2 : Int) = (x3 : Int)
  f2 : bits .xor .u32 (x3 : Int) (x4 : Int) = (x5 : Int)
  f3 : bits .and .u32 (e : Int) (f : Int) = (q1 : Int)
  f4 : bits .xor .u32 IntKind.u32.max (e : Int) = (ne : Int)
  f5 : bits .and .u32 (ne : Int) (g : Int) = (q2 : Int)
  f6 : bits .xor .u32 (q1 : Int) (q2 : Int) = (q3 : Int)
  f7 : bits .xor .u32 (y1 : Int) (y2 : Int) = (y3 : Int)
  f8 : bits .xor .u32 (y3 : Int) (y4 : Int) = (y5 : Int)
  f9 : bits .and .u32 (a : Int) (b : Int) = (m1 : Int)
  f10 : bits .and .u32 (a : Int) (c : Int) = (m2 : Int)
  f11 : bits .xor .u32 (m1 : Int) (m2 : Int) = (m3 : Int)
  f12 : bits .and .u32 (b : Int) (c : Int) = (m4 : Int)
  f13 : bits .xor .u32 (m3 : Int) (m4 : Int) = (m5 : Int)
  g1 : IntKind.u32.wrap ((h : Int) + (x5 : Int)) = (a1 : Int)
  g2 : IntKind.u32.wrap ((a1 : Int) + (q3 : Int)) = (a2 : Int)
  g3 : IntKind.u32.wrap ((a2 : Int) + (k : Int)) = (a3 : Int)
  g4 : IntKind.u32.wrap ((a3 : Int) + (w : Int)) = (a4 : Int)
  g5 : IntKind.u32.wrap ((y5 : Int) + (m5 : Int)) = (a5 : Int)
  g6 : IntKind.u32.wrap ((d : Int) + (a4 : Int)) = (ee : Int)
  g7 : IntKind.u32.wrap ((a4 : Int) + (a5 : Int)) = (aa : Int)
  sums : a4 = (a1 + q3 + k + w) % 4294967296 ∧ a5 = (y5 + m5) % 4294967296 ∧ ee = (d + a4) % 4294967296 ∧ aa = (a4 + a5) % 4294967296
  out : ShaMath.round ⟨a, b, c, d, e, f, g, h⟩ k w = ⟨aa, a, b, c, ee, e, f, g⟩
theorem round_facts (a b c d e f g h k w : Nat) (la : a < 4294967296) (lb : b < 4294967296) (lc : c < 4294967296) (le : e < 4294967296) (lf : f < 4294967296) (lg : g < 4294967296) :
    ∃ x1 x2 x3 x4 x5 a1 q1 ne q2 q3 a2 a3 a4 y1 y2 y3 y4 y5 m1 m2 m3 m4 m5 a5 ee aa, RoundFacts a b c d e f g h k w x1 x2 x3 x4 x5 a1 q1 ne q2 q3 a2 a3 a4 y1 y2 y3 y4 y5 m1 m2 m3 m4 m5 a5 ee aa := by
  obtain ⟨a1, ea1⟩ : ∃ v, v = (h + big1 e) % 4294967296 := ⟨_, rfl⟩
  obtain ⟨a2, ea2⟩ : ∃ v, v = (a1 + ch e f g) % 4294967296 := ⟨_, rfl⟩
  obtain ⟨a3, ea3⟩ : ∃ v, v = (a2 + k) % 4294967296 := ⟨_, rfl⟩
  obtain ⟨a4, ea4⟩ : ∃ v, v = (a3 + w) % 4294967296 := ⟨_, rfl⟩
  obtain ⟨a5, ea5⟩ : ∃ v, v = (big0 a + maj a b c) % 4294967296 := ⟨_, rfl⟩
  obtain ⟨ee, eee⟩ : ∃ v, v = (d + a4) % 4294967296 := ⟨_, rfl⟩
  obtain ⟨aa, eaa⟩ : ∃ v, v = (a4 + a5) % 4294967296 := ⟨_, rfl⟩
  have lne : 4294967295 ^^^ e < 4294967296 := xlt (by decide) le
  refine ⟨ShaMath.rotr e 6, ShaMath.rotr e 11, ShaMath.rotr e 6 ^^^ ShaMath.rotr e 11, ShaMath.rotr e 25, big1 e, a1, e &&& f, 4294967295 ^^^ e, (4294967295 ^^^ e) &&& g, ch e f g, a2, a3, a4, ShaMath.rotr a 2, ShaMath.rotr a 13, ShaMath.rotr a 2 ^^^ ShaMath.rotr a 13, ShaMath.rotr a 22, big0 a, a &&& b, a &&& c, (a &&& b) ^^^ (a &&& c), b &&& c, maj a b c, a5, ee, aa, rfl, rfl, rfl, rfl, rfl, rfl, ?_, ?_, ?_, ?_, ?_, ?_, ?_, ?_, ?_, ?_, ?_, ?_, ?_, ?_, ?_, ?_, ?_, ?_, ?_, ?_, ?_, ?_⟩
  · exact u32_xor_nat _ _ (rotr_lt le) (rotr_lt le)
  · exact u32_xor_nat _ _ (xlt (rotr_lt le) (rotr_lt le)) (rotr_lt le)
  · exact u32_and_nat _ _ le lf
  · rw [show IntKind.u32.max = 4294967295 from rfl]; exact u32_xor_nat 4294967295 e (by decide) le
  · exact u32_and_nat _ _ lne lg
  · exact u32_xor_nat _ _ (alt le) (alt lne)
  · exact u32_xor_nat _ _ (rotr_lt la) (rotr_lt la)
  · exact u32_xor_nat _ _ (xlt (rotr_lt la) (rotr_lt la)) (rotr_lt la)
  · exact u32_and_nat _ _ la lb
  · exact u32_and_nat _ _ la lc
  · exact u32_xor_nat _ _ (alt la) (alt la)
  · exact u32_and_nat _ _ lb lc
  · exact u32_xor_nat _ _ (xlt (alt la) (alt la)) (alt lb)
  · rw [IntKind.wrap_u32']; omega
  · rw [IntKind.wrap_u32']; omega
  · rw [IntKind.wrap_u32']; omega
  · rw [IntKind.wrap_u32']; omega
  · rw [IntKind.wrap_u32']; omega
  · rw [IntKind.wrap_u32']; omega
  · rw [IntKind.wrap_u32']; omega
  · omega
  · have b5 : ShaMath.t1 ⟨a, b, c, d, e, f, g, h⟩ k w = a4 := by
      show (h + big1 e + ch e f g + k + w) % 4294967296 = a4
      omega
    have b6 : ShaMath.t2 ⟨a, b, c, d, e, f, g, h⟩ = a5 := by
      show (big0 a + maj a b c) % 4294967296 = a5
      omega
    unfold ShaMath.round
    rw [b5, b6, eaa, eee]
end Go.Proofs.YthafeccfcnmefaaDoor
