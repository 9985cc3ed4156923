/-
  The document's own Seal of chapter 9. No conditions but those typed.
-/
import Derived.Test.YtjijlfohlmhlkaaDoorFrameRef
namespace Go.Proofs.YtjijlfohlmhlkaaDoor
open Go.RowKit FrameMath TextNat

/-- A row of bytes of one's own, the mark allowed. -/
def OwnM8 (w : World) (B : Nat) (v : Value) (l : List Nat) : Prop := OwnsM w B 5 v l.length (byteVals l)
theorem nibs_snoc {l : List Nat} {i z : Nat} (h : l[i]? = some z) : nibs (l.take (i + 1)) = nibs (l.take i) ++ [64 + z / 16, 64 + z % 16] := by
  rw [List.take_add_one, h, nibs_append]
  rfl
theorem ownm_below {w w' : World} {B : Nat} {v : Value} {l : List Nat} (h : OwnM8 w B v l) (hB : B ≤ w.heap.size) (hg : w.grownBy w' v.ownBlock) : Below B w w' :=
  (Below.refl B w).grown hg hB (fun q hq => (OwnsM.lt h q hq).1)
theorem two_at (w : World) (x y B : Nat) (hB : B = w.heap.size) : ∀ (j : Nat) (u : Value), (byteVals [x, y])[j]? = some u → (w.alloc (.cells #[.int .u8 (x : Int), .int .u8 (y : Int)] 5)).cell? ((⟨B, 0, none⟩ : Addr).add j) = some u := by
  subst hB
  exact lies_news (Lies.new w (byteVals [x, y]) 5)
theorem own_one (w : World) (x : Nat) : OwnM8 (w.alloc (.cells #[.int .u8 (x : Int)] 5)) w.heap.size (.slice (some ⟨w.heap.size, 0, none⟩) 1 1) [x] :=
  ⟨rfl, Or.inr ⟨w.heap.size, 1, #[.int .u8 (x : Int)], 0, 0, rfl, Nat.le_refl _, heap_alloc_new w _, Or.inl rfl, Nat.le_refl _, by unfold maxLen; decide, rfl, rfl⟩⟩
set_option maxRecDepth 100000 in
set_option maxHeartbeats 8000000 in
theorem refSeal (s : ByteArray) (w : World) (hs : s.size ≤ 10000) :
    Calls Tryd.prog 13 #[.string s] w fun e w' => e = .returned (.string (txt (framed (nats s)))) ∧ Below w.heap.size w w' := by
  obtain ⟨ib, hib, hb0, hb1, hb2⟩ := info_parts info_byte
  have HR := Lib.hid (refRaw s w hs)
  have HBY := Lib.hid (rawF_bytes (p := nats s) (by rw [nats_len]; omega) (nats_ok s))
  have HLN := Lib.hid (rawF_len (nats s))
  have HNN := Lib.hid (nats_len s)
  go_enter Tryd.func13, Tryd.ntmps13
  go_wp2_with fail
  refine HR.out.mono ?_
  rintro e w1 ⟨⟨v, B, rfl, hwB, hown⟩, hb⟩
  have HB1 := Lib.hid hb
  obtain ⟨R, hR⟩ : ∃ R, R = rawF (nats s) := ⟨_, rfl⟩
  rw [← hR] at hown HBY HLN
  have HRR := Lib.hid hR
  obtain ⟨g, cap, rfl, hg, hcell⟩ := hown.cells (by rw [HLN.out]; omega)
  obtain ⟨L, hL⟩ : ∃ L, L = R.length := ⟨_, rfl⟩
  have HL := Lib.hid hL
  have hL2 : L ≤ 10010 := by rw [hL, HLN.out, HNN.out]; omega
  rw [← hL]
  have HC := Lib.hid hcell
  have HG := Lib.hid (show g < w1.heap.size from World.block_lt_of_cell? w1 _ (hcell 0 _ (List.getElem?_eq_getElem (show 0 < R.length by rw [HLN.out]; omega))))
  clear hb hR hL hown hcell HR hwB
  have O1 := Lib.hid (show OwnM8 (w1.alloc (.cells #[.int .u8 1] 5)) w1.heap.size (.slice (some ⟨w1.heap.size, 0, none⟩) 1 1) [1] from own_one w1 1)
  have B1 := Lib.hid (show Below w1.heap.size w1 (w1.alloc (.cells #[.int .u8 1] 5)) from (Below.refl _ _).alloc (Nat.le_refl _) _)
  go_wp2_with fail
  go_loopg [4, 5] L (fun gh s4 s5 wx => ∃ i : Nat, i + gh = L ∧ s5 = .int .i64 (i : Int) ∧ OwnM8 wx w1.heap.size s4 (1 :: nibs (R.take i)) ∧ Below w1.heap.size w1 wx)
  case atStart => exact ⟨0, by omega, by go_num, O1.out, B1.out⟩
  case round =>
    obtain ⟨i, hi, rfl, hown, hb⟩ := hrel
    clear O1 B1
    rename World => W
    by_cases hiL : i < L
    · have t1 : decide ((i : Int) < (L : Int)) = true := decide_eq_true (by omega)
      have t1' : decide (i < L) = true := decide_eq_true hiL
      obtain ⟨z, hz⟩ : ∃ z, R[i]? = some z := ⟨_, List.getElem?_eq_getElem (by rw [← HL.out]; exact hiL)⟩
      have hz256 := HBY.out z (List.mem_of_getElem? hz)
      have hcz : W.cell? ⟨g, i, none⟩ = some (.int .u8 (z : Int)) := (hb.cell (p := ⟨g, i, none⟩) HG.out).trans (HC.out i z hz)
      obtain ⟨x, hx⟩ : ∃ x, x = 64 + z / 16 := ⟨_, rfl⟩
      obtain ⟨y, hy⟩ : ∃ y, y = 64 + z % 16 := ⟨_, rfl⟩
      obtain ⟨q, hq⟩ : ∃ q, q = z / 16 := ⟨_, rfl⟩
      obtain ⟨t, ht⟩ : ∃ t, t = z % 16 := ⟨_, rfl⟩
      have kq : IntKind.u8.wrap ((z : Int) / 16) = (q : Int) := by rw [IntKind.wrap_u8]; omega
      have kt : (z : Int).tmod 16 = (t : Int) := by rw [ht]; rfl
      have k1 : IntKind.u8.wrap (64 + (q : Int)) = (x : Int) := by rw [IntKind.wrap_u8]; omega
      have k2 : IntKind.u8.wrap (64 + (t : Int)) = (y : Int) := by rw [IntKind.wrap_u8]; omega
      have HZ := Lib.hid (show 1 :: nibs (R.take i) ++ [x, y] = 1 :: nibs (R.take (i + 1)) by rw [nibs_snoc hz, hx, hy]; rfl)
      have HOL := Lib.hid (show (1 :: nibs (R.take i)).length ≤ 30000 by rw [List.length_cons, nibs_len, List.length_take]; omega)
      have HOb := Lib.hid (show OwnsM (W.alloc (.cells #[.int .u8 (x : Int), .int .u8 (y : Int)] 5)).drew w1.heap.size 5 _ _ _ from hown.alloc (.cells #[.int .u8 (x : Int), .int .u8 (y : Int)] 5))
      have HBb := Lib.hid (show Below w1.heap.size w1 (W.alloc (.cells #[.int .u8 (x : Int), .int .u8 (y : Int)] 5)).drew from (hb.alloc hb.size (.cells #[.int .u8 (x : Int), .int .u8 (y : Int)] 5)).drew)
      have HTW := Lib.hid (show ∀ (j : Nat) (u : Value), (byteVals [x, y])[j]? = some u → (W.alloc (.cells #[.int .u8 (x : Int), .int .u8 (y : Int)] 5)).drew.cell? ((⟨W.heap.size, 0, none⟩ : Addr).add j) = some u from two_at W x y _ rfl)
      have HON := Lib.hid (show ∀ u ∈ byteVals [x, y], u.oneCell' = true from fun u hu => by simp [byteVals] at hu; rcases hu with rfl | rfl <;> rfl)
      have H63 := Lib.hid (show (1 :: nibs (R.take i)).length + 2 ≤ maxLen by unfold maxLen; have := HOL.out; omega)
      have HBY2 := Lib.hid (show ((1 :: nibs (R.take i)).length + 2) * 1 ≤ 140737488355328 by have := HOL.out; omega)
      clear hown hb hz hx hy hq ht
      go_wp2_with fail
      go_region_law (refine step_append_m rfl (.tmp 15) (.tmp 28) 36 rfl w1.heap.size 5 ib (.int .u8 0) 1 Tryd.underlying36 hib hb0 hb1 hb2 rfl _ _ _ (by simp [Act.eval]) HOb.out ⟨W.heap.size, 0, none⟩ 2 2 (byteVals [x, y]) (by simp [Act.eval]) rfl HTW.out HON.out H63.out HBY2.out HBb.out.size ?_; intro v9 w9 hown9 hgrow9)
      all_goals
        have hB9 : Below w1.heap.size w1 w9 := HBb.out.trans (ownm_below (show OwnM8 _ w1.heap.size _ (1 :: nibs (R.take i)) from HOb.out) HBb.out.size hgrow9)
        have hO9 : OwnM8 w9 w1.heap.size v9 (1 :: nibs (R.take (i + 1))) := by
          rw [← HZ.out]
          show OwnsM w9 w1.heap.size 5 v9 _ _
          rw [byteVals_app, List.length_append]
          exact hown9
        clear hown9 hgrow9
        go_wp2_with fail
        go_roundg (L - (i + 1))
        case measure => omega
        case rel => exact ⟨i + 1, by omega, by go_num, hO9, hB9⟩
    · have t1 : decide ((i : Int) < (L : Int)) = false := decide_eq_false (by omega)
      have t1' : decide (i < L) = false := decide_eq_false hiL
      have hfr : 1 :: nibs (R.take i) = framed (nats s) := by
        rw [List.take_of_length_le (by rw [← HL.out]; omega), HRR.out]
        rfl
      rw [hfr] at hown
      have hoct : ∀ b ∈ framed (nats s), b < 256 := by
        intro b hb'
        rcases framed_mem (by rw [HNN.out]; omega) (nats_ok s) b hb' with h | h <;> omega
      obtain ⟨g2, cap2, hv, _, _, _, _, hc2, _⟩ := hown.open (by rw [framed_len]; omega)
      subst hv
      have kt := text_row W g2 cap2 (framed (nats s)) hoct (fun j hj => by
        rw [hc2 j hj]
        rfl)
      have HB3 := Lib.hid (HB1.out.trans (hb.mono HB1.out.size))
      clear hown hb hc2 hfr hoct
      go_wp2_with fail
      go_ret
      exact ⟨rfl, HB3.out⟩
end Go.Proofs.YtjijlfohlmhlkaaDoor
