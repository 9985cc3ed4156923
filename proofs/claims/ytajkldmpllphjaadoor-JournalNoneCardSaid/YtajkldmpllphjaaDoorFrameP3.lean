/-
  The program's own spelling of raw bytes of chapter 9, and its Seal. No conditions but those typed.
-/
import Derived.Test.YtajkldmpllphjaaDoorPart06
namespace Go.Proofs.YtajkldmpllphjaaDoor
open Go.RowKit FrameMath TextNat CrcMath

theorem high_bits (z : Nat) (h : z < 256) : bits .or .u8 64 ((z / 16 : Nat) : Int) = ((64 + z / 16 : Nat) : Int) := by
  have : ∀ q, q < 16 → bits .or .u8 64 ((q : Nat) : Int) = ((64 + q : Nat) : Int) := by decide
  exact this _ (by omega)
theorem low_high (z : Nat) : bits .or .u8 64 ((z % 16 : Nat) : Int) = ((64 + z % 16 : Nat) : Int) := by
  have : ∀ q, q < 16 → bits .or .u8 64 ((q : Nat) : Int) = ((64 + q : Nat) : Int) := by decide
  exact this _ (by omega)
theorem low_bits (z : Nat) (h : z < 256) : bits .and .u8 (z : Int) 15 = ((z % 16 : Nat) : Int) := by
  have := u8_and_nat z 15 h (by decide)
  rw [show (15 : Nat) = 2 ^ 4 - 1 by decide, Nat.and_two_pow_sub_one_eq_mod] at this
  exact this
set_option maxRecDepth 100000 in
set_option maxHeartbeats 8000000 in
theorem spread_ok (R : List Nat) (g cap : Nat) (w : World) (hR : R.length ≤ 20000) (hb : Oct R) (hc : ∀ i z : Nat, R[i]? = some z → w.cell? ⟨g, i, none⟩ = some (.int .u8 (z : Int))) (hg : g < w.heap.size) :
    Calls Tryd.prog 65 #[.slice (some ⟨g, 0, none⟩) R.length cap] w fun e w' => e = .returned (.string (txt (1 :: nibs R))) ∧ Below w.heap.size w w' := by
  obtain ⟨ib, hib, hb0, hb1, hb2⟩ := info_parts info_byte
  have HBY := Lib.hid hb
  obtain ⟨L, hL⟩ : ∃ L, L = R.length := ⟨_, rfl⟩
  have HL := Lib.hid hL
  have hL2 : L ≤ 20000 := by omega
  rw [← hL]
  obtain ⟨c2, hc2⟩ : ∃ c2, c2 = 2 * L := ⟨_, rfl⟩
  obtain ⟨c1, hc1⟩ : ∃ c1, c1 = 1 + c2 := ⟨_, rfl⟩
  have n1 : IntKind.i64.wrap (2 * (L : Int)) = (c2 : Int) := by rw [IntKind.wrap_i64]; omega
  have n2 : IntKind.i64.wrap (1 + (c2 : Int)) = (c1 : Int) := by rw [IntKind.wrap_i64]; omega
  have HC := Lib.hid hc
  have HG := Lib.hid hg
  have hmk : ∀ u : World, (Instr.makeSlice 54 (.int .i64 1) (.int .i64 (c1 : Int))).run Tryd.prog u = .ok (.slice (some ⟨u.heap.size, 0, none⟩) 1 c1) (u.alloc (.cells (List.replicate c1 (Value.int .u8 0)).toArray 5)) := made8 1 c1 (by omega) (by omega)
  obtain ⟨Z, hZ⟩ : ∃ Z, Z = (List.replicate c1 (Value.int .u8 0)).toArray := ⟨_, rfl⟩
  have O1 := Lib.hid (show Own8 (w.alloc (.cells Z 5)) w.heap.size (.slice (some ⟨w.heap.size, 0, none⟩) 1 c1) [0] by rw [hZ]; exact own_made8 1 c1 (by omega) (by omega) w)
  have B1 := Lib.hid (show Below w.heap.size w (w.alloc (.cells Z 5)) from (Below.refl _ _).alloc (Nat.le_refl _) _)
  rw [← hZ] at hmk
  clear hL hZ hc1 hc2 hc hg hb hR
  go_enter Tryd.func65, Tryd.ntmps65
  go_upto_region 2 with fail
  obtain ⟨g1, hg1⟩ : ∃ g1, g1 = w.heap.size := ⟨_, rfl⟩
  have HGg := Lib.hid hg1
  obtain ⟨w1, hw1⟩ : ∃ w1, w1 = w.alloc (.cells Z 5) := ⟨_, rfl⟩
  rw [← hw1] at O1 B1 ⊢
  rw [← hg1] at O1 ⊢
  clear hw1 hmk hg1
  have O2 := Lib.hid (O1.out.set 0 1)
  obtain ⟨-, -, hgl, hcl, hfr⟩ := O1.out.block
  have B2 := Lib.hid (own_store B1.out (g := g1) (j := 0) (v := .int .u8 1) (by have := HGg.out; omega))
  have c0 : w1.cell? ⟨g1, 0, none⟩ = some (.int .u8 0) := hcl 0 0 rfl
  have f0 : w1.frozen? ⟨g1, 0, none⟩ = false := hfr 0
  clear hcl hfr O1 B1
  obtain ⟨w2, hw2⟩ : ∃ w2, w2 = w1.setCell ⟨g1, 0, none⟩ (.int .u8 1) := ⟨_, rfl⟩
  have HW2 := Lib.hid hw2
  replace O2 := Lib.hid (show Own8 w2 g1 (.slice (some ⟨g1, 0, none⟩) 1 c1) [1] by rw [hw2]; exact O2.out)
  rw [← hw2] at B2
  clear hw2
  go_wp2_with fail
  rw [← HW2.out]
  replace O2 := Lib.hid (show Own8 w2 w.heap.size (.slice (some ⟨g1, 0, none⟩) 1 c1) (1 :: nibs (R.take 0)) by rw [← HGg.out]; exact O2.out)
  clear HW2 c0 f0 hgl n1 n2 HGg
  go_loopg [3, 15] L (fun gh s3 s15 wx => ∃ i : Nat, i + gh = L ∧ s15 = .int .i64 (i : Int) ∧ Own8 wx w.heap.size s3 (1 :: nibs (R.take i)) ∧ Below w.heap.size w wx)
  case atStart => exact ⟨0, by omega, by go_num, O2.out, B2.out⟩
  case round =>
    obtain ⟨i, hi, rfl, hown, hb⟩ := hrel
    clear O2 B2
    rename World => W
    by_cases hiL : i < L
    · have t1 : decide ((i : Int) < (L : Int)) = true := decide_eq_true (by omega)
      have t1' : decide (i < L) = true := decide_eq_true hiL
      obtain ⟨z, hz⟩ : ∃ z, R[i]? = some z := ⟨_, List.getElem?_eq_getElem (by rw [← HL.out]; exact hiL)⟩
      have hz256 := HBY.out z (List.mem_of_getElem? hz)
      have hcz : W.cell? ⟨g, i, none⟩ = some (.int .u8 (z : Int)) := (hb.cell (p := ⟨g, i, none⟩) HG.out).trans (HC.out i z hz)
      obtain ⟨x, hx⟩ : ∃ x, x = 64 + z / 16 := ⟨_, rfl⟩
      obtain ⟨y, hy⟩ : ∃ y, y = 64 + z % 16 := ⟨_, rfl⟩
      obtain ⟨q, hq⟩ : ∃ q, q = z / 16 := ⟨_, rfl⟩
      obtain ⟨t, ht⟩ : ∃ t, t = z % 16 := ⟨_, rfl⟩
      have kq : (z : Int) / 16 = (q : Int) := by omega
      have kt : bits .and .u8 (z : Int) 15 = (t : Int) := by rw [ht]; exact low_bits z hz256
      have k1 : bits .or .u8 64 (q : Int) = (x : Int) := by rw [hx, hq]; exact high_bits z hz256
      have k2 : bits .or .u8 64 (t : Int) = (y : Int) := by rw [hy, ht]; exact low_high z
      have HZ := Lib.hid (show 1 :: nibs (R.take i) ++ [x, y] = 1 :: nibs (R.take (i + 1)) by rw [nibs_snoc hz, hx, hy]; rfl)
      have HOL := Lib.hid (show (1 :: nibs (R.take i)).length ≤ 50000 by rw [List.length_cons, nibs_len, List.length_take]; omega)
      have HOb := Lib.hid (hown.below ((Below.refl W.heap.size W).alloc (Nat.le_refl _) (.cells #[.int .u8 (x : Int), .int .u8 (y : Int)] 5)))
      have HBb := Lib.hid (hb.alloc hb.size (.cells #[.int .u8 (x : Int), .int .u8 (y : Int)] 5))
      have HTW := Lib.hid (two_at W x y _ rfl)
      clear hown hb hz hx hy hq ht
      go_wp2_with (at_builtin; refine app_bytes rfl _ _ rfl w.heap.size _ (1 :: nibs (R.take i)) rfl HOb.out ⟨W.heap.size, 0, none⟩ 2 2 [x, y] rfl rfl HTW.out (by have := HOL.out; omega) HBb.out.size ?_; intro v9 w9 o9 b9)
      have O9 := Lib.hid (show Own8 w9 w.heap.size v9 (1 :: nibs (R.take (i + 1))) by rw [← HZ.out]; exact o9)
      have B9 := Lib.hid (HBb.out.trans b9)
      clear o9 b9 HOb HBb HTW HZ
      go_roundg (L - (i + 1))
      case measure => omega
      case rel => exact ⟨i + 1, by omega, by go_num, O9.out, B9.out⟩
    · have t1 : decide ((i : Int) < (L : Int)) = false := decide_eq_false (by omega)
      have t1' : decide (i < L) = false := decide_eq_false hiL
      have hfr : R.take i = R := List.take_of_length_le (by rw [← HL.out]; omega)
      rw [hfr] at hown
      have hoct : ∀ b ∈ 1 :: nibs R, b < 256 := by
        intro b hb'
        rcases List.mem_cons.1 hb' with rfl | h
        · omega
        · have := nibs_mem HBY.out b h
          omega
      obtain ⟨g2, cap2, hv, _, hc2⟩ := hown.cells (by simp)
      subst hv
      have kt := text_row W g2 cap2 (1 :: nibs R) hoct (fun j hj => by
        rw [hc2 j _ (List.getElem?_eq_getElem hj), natVals_at, List.getElem?_eq_getElem hj]
        rfl)
      have HB3 := Lib.hid hb
      obtain ⟨T, hT⟩ : ∃ T, T = 1 :: nibs R := ⟨_, rfl⟩
      rw [← hT] at kt ⊢
      have HTT := Lib.hid hT
      clear hown hb hc2 hfr hoct hT
      go_wp2_with fail
      go_ret
      exact ⟨by rw [← HTT.out]; rfl, HB3.out⟩
end Go.Proofs.YtajkldmpllphjaaDoor
