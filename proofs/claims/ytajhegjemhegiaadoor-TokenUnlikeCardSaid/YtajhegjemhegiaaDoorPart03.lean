/-
  Texts of one claim, merged.
  ShaFacts: What the machine's words come to in one step of SHA-256's schedule and in one round, as facts on 'bits' and 'wrap' with a number of its own for each: for whatever program. The conditions: all words are below 2^32.
  ShaRun: Plain mathematics of SHA-256, block by block from any state: how a text's digest comes to be when its first blocks are already mixed in. No program, no conditions but those typed.
-/
import Derived.Test.YtajhegjemhegiaaDoorPart01
import Derived.Laws.BitsAllLaws
namespace Go.Proofs.YtajhegjemhegiaaDoor
open ShaMath

/-- One step of the schedule: v14, v9, v1, v0 are the words 2, 7, 15, 16 places back. -/
structure SchedFacts (v14 v9 v1 v0 x1 x2 x3 x4 y1 y2 y3 y4 z1 z2 z3 : Nat) : Prop where
  ex1 : x1 = ShaMath.rotr v14 17
  ex2 : x2 = ShaMath.rotr v14 19
  ey1 : y1 = ShaMath.rotr v1 7
  ey2 : y2 = ShaMath.rotr v1 18
  f1 : bits .xor .u32 (x1 : Int) (x2 : Int) = (x3 : Int)
  f2 : bits .xor .u32 (x3 : Int) ((v14 : Int) / 1024) = (x4 : Int)
  f3 : bits .xor .u32 (y1 : Int) (y2 : Int) = (y3 : Int)
  f4 : bits .xor .u32 (y3 : Int) ((v1 : Int) / 8) = (y4 : Int)
  f5 : IntKind.u32.wrap ((x4 : Int) + (v9 : Int)) = (z1 : Int)
  f6 : IntKind.u32.wrap ((z1 : Int) + (y4 : Int)) = (z2 : Int)
  f7 : IntKind.u32.wrap ((z2 : Int) + (v0 : Int)) = (z3 : Int)
  out : (small1 v14 + v9 + small0 v1 + v0) % 4294967296 = z3
theorem sched_facts (v14 v9 v1 v0 : Nat) (l14 : v14 < 4294967296) (l1 : v1 < 4294967296) : ∃ x1 x2 x3 x4 y1 y2 y3 y4 z1 z2 z3, SchedFacts v14 v9 v1 v0 x1 x2 x3 x4 y1 y2 y3 y4 z1 z2 z3 := by
  refine ⟨ShaMath.rotr v14 17, ShaMath.rotr v14 19, ShaMath.rotr v14 17 ^^^ ShaMath.rotr v14 19, small1 v14, ShaMath.rotr v1 7, ShaMath.rotr v1 18, ShaMath.rotr v1 7 ^^^ ShaMath.rotr v1 18, small0 v1, (small1 v14 + v9) % 4294967296, ((small1 v14 + v9) % 4294967296 + small0 v1) % 4294967296, (((small1 v14 + v9) % 4294967296 + small0 v1) % 4294967296 + v0) % 4294967296, rfl, rfl, rfl, rfl, ?_, ?_, ?_, ?_, ?_, ?_, ?_, ?_⟩
  · exact u32_xor_nat _ _ (rotr_lt l14) (rotr_lt l14)
  · exact u32_xor_nat _ (v14 / 1024) (xlt (rotr_lt l14) (rotr_lt l14)) (by omega)
  · exact u32_xor_nat _ _ (rotr_lt l1) (rotr_lt l1)
  · exact u32_xor_nat _ (v1 / 8) (xlt (rotr_lt l1) (rotr_lt l1)) (by omega)
  · rw [IntKind.wrap_u32']; omega
  · rw [IntKind.wrap_u32']; omega
  · rw [IntKind.wrap_u32']; omega
  · omega

/-- One round, its words a to h, the constant k and the word w. -/
structure RoundFacts (a b c d e f g h k w x1 x2 x3 x4 x5 a1 q1 ne q2 q3 a2 a3 a4 y1 y2 y3 y4 y5 m1 m2 m3 m4 m5 a5 ee aa : Nat) : Prop where
  ex1 : x1 = ShaMath.rotr e 6
  ex2 : x2 = ShaMath.rotr e 11
  ex4 : x4 = ShaMath.rotr e 25
  ey1 : y1 = ShaMath.rotr a 2
  ey2 : y2 = ShaMath.rotr a 13
  ey4 : y4 = ShaMath.rotr a 22
  f1 : bits .xor .u32 (x1 : Int) (x2 : Int) = (x3 : Int)
  f2 : bits .xor .u32 (x3 : Int) (x4 : Int) = (x5 : Int)
  f3 : bits .and .u32 (e : Int) (f : Int) = (q1 : Int)
  f4 : bits .xor .u32 IntKind.u32.max (e : Int) = (ne : Int)
  f5 : bits .and .u32 (ne : Int) (g : Int) = (q2 : Int)
  f6 : bits .xor .u32 (q1 : Int) (q2 : Int) = (q3 : Int)
  f7 : bits .xor .u32 (y1 : Int) (y2 : Int) = (y3 : Int)
  f8 : bits .xor .u32 (y3 : Int) (y4 : Int) = (y5 : Int)
  f9 : bits .and .u32 (a : Int) (b : Int) = (m1 : Int)
  f10 : bits .and .u32 (a : Int) (c : Int) = (m2 : Int)
  f11 : bits .xor .u32 (m1 : Int) (m2 : Int) = (m3 : Int)
  f12 : bits .and .u32 (b : Int) (c : Int) = (m4 : Int)
  f13 : bits .xor .u32 (m3 : Int) (m4 : Int) = (m5 : Int)
  g1 : IntKind.u32.wrap ((h : Int) + (x5 : Int)) = (a1 : Int)
  g2 : IntKind.u32.wrap ((a1 : Int) + (q3 : Int)) = (a2 : Int)
  g3 : IntKind.u32.wrap ((a2 : Int) + (k : Int)) = (a3 : Int)
  g4 : IntKind.u32.wrap ((a3 : Int) + (w : Int)) = (a4 : Int)
  g5 : IntKind.u32.wrap ((y5 : Int) + (m5 : Int)) = (a5 : Int)
  g6 : IntKind.u32.wrap ((d : Int) + (a4 : Int)) = (ee : Int)
  g7 : IntKind.u32.wrap ((a4 : Int) + (a5 : Int)) = (aa : Int)
  sums : a4 = (a1 + q3 + k + w) % 4294967296 ∧ a5 = (y5 + m5) % 4294967296 ∧ ee = (d + a4) % 4294967296 ∧ aa = (a4 + a5) % 4294967296
  out : ShaMath.round ⟨a, b, c, d, e, f, g, h⟩ k w = ⟨aa, a, b, c, ee, e, f, g⟩
theorem round_facts (a b c d e f g h k w : Nat) (la : a < 4294967296) (lb : b < 4294967296) (lc : c < 4294967296) (le : e < 4294967296) (lf : f < 4294967296) (lg : g < 4294967296) :
    ∃ x1 x2 x3 x4 x5 a1 q1 ne q2 q3 a2 a3 a4 y1 y2 y3 y4 y5 m1 m2 m3 m4 m5 a5 ee aa, RoundFacts a b c d e f g h k w x1 x2 x3 x4 x5 a1 q1 ne q2 q3 a2 a3 a4 y1 y2 y3 y4 y5 m1 m2 m3 m4 m5 a5 ee aa := by
  obtain ⟨a1, ea1⟩ : ∃ v, v = (h + big1 e) % 4294967296 := ⟨_, rfl⟩
  obtain ⟨a2, ea2⟩ : ∃ v, v = (a1 + ch e f g) % 4294967296 := ⟨_, rfl⟩
  obtain ⟨a3, ea3⟩ : ∃ v, v = (a2 + k) % 4294967296 := ⟨_, rfl⟩
  obtain ⟨a4, ea4⟩ : ∃ v, v = (a3 + w) % 4294967296 := ⟨_, rfl⟩
  obtain ⟨a5, ea5⟩ : ∃ v, v = (big0 a + maj a b c) % 4294967296 := ⟨_, rfl⟩
  obtain ⟨ee, eee⟩ : ∃ v, v = (d + a4) % 4294967296 := ⟨_, rfl⟩
  obtain ⟨aa, eaa⟩ : ∃ v, v = (a4 + a5) % 4294967296 := ⟨_, rfl⟩
  have lne : 4294967295 ^^^ e < 4294967296 := xlt (by decide) le
  refine ⟨ShaMath.rotr e 6, ShaMath.rotr e 11, ShaMath.rotr e 6 ^^^ ShaMath.rotr e 11, ShaMath.rotr e 25, big1 e, a1, e &&& f, 4294967295 ^^^ e, (4294967295 ^^^ e) &&& g, ch e f g, a2, a3, a4, ShaMath.rotr a 2, ShaMath.rotr a 13, ShaMath.rotr a 2 ^^^ ShaMath.rotr a 13, ShaMath.rotr a 22, big0 a, a &&& b, a &&& c, (a &&& b) ^^^ (a &&& c), b &&& c, maj a b c, a5, ee, aa, rfl, rfl, rfl, rfl, rfl, rfl, ?_, ?_, ?_, ?_, ?_, ?_, ?_, ?_, ?_, ?_, ?_, ?_, ?_, ?_, ?_, ?_, ?_, ?_, ?_, ?_, ?_, ?_⟩
  · exact u32_xor_nat _ _ (rotr_lt le) (rotr_lt le)
  · exact u32_xor_nat _ _ (xlt (rotr_lt le) (rotr_lt le)) (rotr_lt le)
  · exact u32_and_nat _ _ le lf
  · rw [show IntKind.u32.max = 4294967295 from rfl]; exact u32_xor_nat 4294967295 e (by decide) le
  · exact u32_and_nat _ _ lne lg
  · exact u32_xor_nat _ _ (alt le) (alt lne)
  · exact u32_xor_nat _ _ (rotr_lt la) (rotr_lt la)
  · exact u32_xor_nat _ _ (xlt (rotr_lt la) (rotr_lt la)) (rotr_lt la)
  · exact u32_and_nat _ _ la lb
  · exact u32_and_nat _ _ la lc
  · exact u32_xor_nat _ _ (alt la) (alt la)
  · exact u32_and_nat _ _ lb lc
  · exact u32_xor_nat _ _ (xlt (alt la) (alt la)) (alt lb)
  · rw [IntKind.wrap_u32']; omega
  · rw [IntKind.wrap_u32']; omega
  · rw [IntKind.wrap_u32']; omega
  · rw [IntKind.wrap_u32']; omega
  · rw [IntKind.wrap_u32']; omega
  · rw [IntKind.wrap_u32']; omega
  · rw [IntKind.wrap_u32']; omega
  · omega
  · have b5 : ShaMath.t1 ⟨a, b, c, d, e, f, g, h⟩ k w = a4 := by
      show (h + big1 e + ch e f g + k + w) % 4294967296 = a4
      omega
    have b6 : ShaMath.t2 ⟨a, b, c, d, e, f, g, h⟩ = a5 := by
      show (big0 a + maj a b c) % 4294967296 = a5
      omega
    unfold ShaMath.round
    rw [b5, b6, eaa, eee]
end Go.Proofs.YtajhegjemhegiaaDoor
namespace ShaMath

/-- One block mixed in. -/
def mixN (r : Regs) (b : List Nat) : Regs := add r (rounds r (sched b 0 48) 64)
/-- The first n blocks of m mixed in. -/
def run (h : Regs) (m : List Nat) : Nat → Regs
  | 0 => h
  | n + 1 => mixN (run h m n) ((m.drop (64 * n)).take 64)

theorem getD_block (m : List Nat) (n i : Nat) (h : i < 64) : ((m.drop (64 * n)).take 64).getD i 0 = m.getD (64 * n + i) 0 := by
  rw [List.getD_eq_getElem?_getD, List.getD_eq_getElem?_getD, List.getElem?_take, if_pos h, List.getElem?_drop]
theorem wordAt_block (m : List Nat) (n t : Nat) (h : t < 16) : wordAt ((m.drop (64 * n)).take 64) 0 t = wordAt m (64 * n) t := by
  unfold wordAt
  congr 1
  apply List.map_congr_left
  intro j hj
  have hj4 : j < 4 := by simpa using hj
  rw [Nat.zero_add, getD_block m n _ (by omega), Nat.add_assoc]
theorem first_block (m : List Nat) (n : Nat) : ∀ t, t ≤ 16 → first ((m.drop (64 * n)).take 64) 0 t = first m (64 * n) t
  | 0, _ => rfl
  | t + 1, h => by
    show first _ 0 t ++ [_] = first _ _ t ++ [_]
    rw [first_block m n t (by omega), wordAt_block m n t (by omega)]
theorem sched_block (m : List Nat) (n : Nat) : ∀ q, sched ((m.drop (64 * n)).take 64) 0 q = sched m (64 * n) q
  | 0 => first_block m n 16 (Nat.le_refl _)
  | q + 1 => by
    show sched _ 0 q ++ [_] = sched _ _ q ++ [_]
    rw [sched_block m n q]
theorem blocks_run (m : List Nat) : ∀ n, blocks m n = run r0 m n
  | 0 => rfl
  | n + 1 => by
    show add (blocks m n) (rounds (blocks m n) (sched m (64 * n) 48) 64) = mixN (run r0 m n) _
    rw [blocks_run m n]
    unfold mixN
    rw [sched_block]
theorem run_ok {h : Regs} (hh : h.Ok) (m : List Nat) : ∀ n, (run h m n).Ok
  | 0 => hh
  | _ + 1 => add_ok _ _
theorem mixN_ok (h : Regs) (b : List Nat) : (mixN h b).Ok := add_ok _ _
/-- What stands behind doesn't matter. -/
theorem run_front (h : Regs) (a b : List Nat) : ∀ n, 64 * n ≤ a.length → run h (a ++ b) n = run h a n
  | 0, _ => rfl
  | n + 1, hl => by
    show mixN (run h (a ++ b) n) _ = mixN (run h a n) _
    rw [run_front h a b n (by omega), List.drop_append_of_le_length (by omega), List.take_append_of_le_length (by simp; omega)]
/-- Whole blocks ahead are mixed in first. -/
theorem run_split (h : Regs) (a b : List Nat) (k : Nat) (ha : a.length = 64 * k) : ∀ n, run h (a ++ b) (k + n) = run (run h a k) b n
  | 0 => run_front h a b k (by omega)
  | n + 1 => by
    show mixN (run h (a ++ b) (k + n)) (((a ++ b).drop (64 * (k + n))).take 64) = mixN (run (run h a k) b n) _
    rw [run_split h a b k ha n, List.drop_append, show 64 * (k + n) - a.length = 64 * n by omega, List.drop_of_length_le (by omega), List.nil_append]

theorem run_one (h : Regs) (b : List Nat) (hb : b.length = 64) : run h b 1 = mixN h b := by
  show mixN h ((b.drop (64 * 0)).take 64) = _
  rw [Nat.mul_zero, List.drop_zero, List.take_of_length_le (by omega)]
theorem run_two (h : Regs) (a b : List Nat) (ha : a.length = 64) (hb : b.length = 64) : run h (a ++ b) 2 = mixN (mixN h a) b := by
  rw [show 2 = 1 + 1 from rfl, run_split h a b 1 (by omega) 1, run_one h a ha, run_one _ b hb]

/-- The last blocks: what is left of the text, the 1, the noughts, the length. -/
def lastShort (R E : List Nat) : List Nat := R ++ [128] ++ List.replicate (55 - R.length) 0 ++ E
def lastFirst (R : List Nat) : List Nat := R ++ [128] ++ List.replicate (63 - R.length) 0
def lastOnly (E : List Nat) : List Nat := List.replicate 56 0 ++ E

theorem digest_run (p S : List Nat) (np K : Nat) (hp : p.length = 64 * np) (hK : 64 * K ≤ S.length) (hR : S.length < 64 * K + 64) :
    digest (p ++ S) = (if S.length - 64 * K < 56 then mixN (run (run r0 p np) S K) (lastShort (S.drop (64 * K)) (eight (8 * (p.length + S.length))))
      else mixN (mixN (run (run r0 p np) S K) (lastFirst (S.drop (64 * K)))) (lastOnly (eight (8 * (p.length + S.length))))).list.flatMap four := by
  unfold digest
  rw [blocks_run]
  congr 2
  obtain ⟨R, hRd⟩ : ∃ R, R = S.drop (64 * K) := ⟨_, rfl⟩
  obtain ⟨A, hA⟩ : ∃ A, A = S.take (64 * K) := ⟨_, rfl⟩
  have hAl : A.length = 64 * K := by rw [hA, List.length_take]; omega
  have hRl : R.length = S.length - 64 * K := by rw [hRd, List.length_drop]
  have hS : S = A ++ R := by rw [hA, hRd, List.take_append_drop]
  obtain ⟨E, hE⟩ : ∃ E, E = eight (8 * (p.length + S.length)) := ⟨_, rfl⟩
  have hEl : E.length = 8 := by rw [hE, eight_len]
  have hpad : pad (p ++ S) = p ++ (A ++ (R ++ [128] ++ List.replicate (zeros (p.length + S.length)) 0 ++ E)) := by
    unfold pad
    rw [List.length_append, ← hE]
    conv => lhs; rw [hS]
    simp only [List.append_assoc]
    rw [← hS]
  have hrun : run (run r0 p np) S K = run (run r0 p np) A K := by
    conv => lhs; rw [hS]
    exact run_front _ _ _ _ (by omega)
  have hz : zeros (p.length + S.length) = (119 - R.length) % 64 := by
    unfold zeros
    rw [show (p.length + S.length) % 64 = R.length by omega]
  rw [← hRd, ← hE, hpad, hrun, ← hRl, hz]
  by_cases h56 : R.length < 56
  · rw [if_pos h56]
    have hz2 : (119 - R.length) % 64 = 55 - R.length := by omega
    rw [hz2]
    have hll : (p ++ (A ++ (R ++ [128] ++ List.replicate (55 - R.length) 0 ++ E))).length / 64 = np + (K + 1) := by
      simp only [List.length_append, List.length_replicate, List.length_cons, List.length_nil, hp, hAl, hEl]
      omega
    rw [hll, run_split _ _ _ np hp, run_split _ _ _ K hAl, run_one _ _ (by simp [hEl]; omega)]
    rfl
  · rw [if_neg h56]
    have hz2 : (119 - R.length) % 64 = 119 - R.length := by omega
    rw [hz2]
    have hll : (p ++ (A ++ (R ++ [128] ++ List.replicate (119 - R.length) 0 ++ E))).length / 64 = np + (K + 2) := by
      simp only [List.length_append, List.length_replicate, List.length_cons, List.length_nil, hp, hAl, hEl]
      omega
    have hsp : R ++ [128] ++ List.replicate (119 - R.length) 0 ++ E = lastFirst R ++ lastOnly E := by
      unfold lastFirst lastOnly
      rw [show 119 - R.length = (63 - R.length) + 56 by omega, ← List.replicate_append_replicate]
      simp only [List.append_assoc]
    rw [hll, run_split _ _ _ np hp, run_split _ _ _ K hAl, hsp, run_two _ _ _ (by simp [lastFirst]; omega) (by simp [lastOnly, hEl])]

/-- Byte 7 - i of a length. -/
theorem eight_at (x i : Nat) (h : i < 8) : (eight x)[7 - i]? = some (x / 2 ^ (8 * i) % 256) := by
  have : i = 0 ∨ i = 1 ∨ i = 2 ∨ i = 3 ∨ i = 4 ∨ i = 5 ∨ i = 6 ∨ i = 7 := by omega
  rcases this with rfl | rfl | rfl | rfl | rfl | rfl | rfl | rfl <;> simp [eight, four, Nat.div_div_eq_div_mul]
/-- The last i bytes written. -/
def tailed (Y E : List Nat) (i : Nat) : List Nat := Y ++ (List.replicate (8 - i) 0 ++ E.drop (8 - i))
theorem tailed_len (Y E : List Nat) (i : Nat) (hY : Y.length = 56) (hE : E.length = 8) (hi : i ≤ 8) : (tailed Y E i).length = 64 := by have := hi; simp [tailed, hY, hE]
theorem tailed_zero (Y E : List Nat) (hE : E.length = 8) : tailed Y E 0 = Y ++ List.replicate 8 0 := by
  unfold tailed
  rw [List.drop_of_length_le (by omega), List.append_nil]
theorem tailed_all (Y E : List Nat) : tailed Y E 8 = Y ++ E := by simp [tailed]
theorem tailed_succ (Y E : List Nat) (i x : Nat) (hY : Y.length = 56) (hE : E.length = 8) (hi : i < 8) (hx : E[7 - i]? = some x) : (tailed Y E i).set (63 - i) x = tailed Y E (i + 1) := by
  unfold tailed
  rw [List.set_append_right _ _ (by omega), hY, show 63 - i - 56 = 7 - i by omega]
  congr 1
  rw [show 8 - i = (7 - i) + 1 by omega, show 8 - (i + 1) = 7 - i by omega, List.replicate_succ', List.append_assoc, List.set_append_right _ _ (by simp)]
  simp only [List.length_replicate, Nat.sub_self]
  congr 1
  have hlt : 7 - i < E.length := by omega
  rw [List.drop_eq_getElem_cons hlt]
  have : E[7 - i] = x := by
    rw [List.getElem?_eq_getElem hlt] at hx
    exact Option.some.inj hx
  rw [this]
  rfl
end ShaMath
