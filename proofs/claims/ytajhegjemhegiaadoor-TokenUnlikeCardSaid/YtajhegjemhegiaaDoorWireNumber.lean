/-
  The contract of the program's number of chapter 5: the number that stands at a place of a text. The conditions: a text of at most 200,000 bytes, a place within it.
-/
import Derived.Test.YtajhegjemhegiaaDoorPart14
namespace Go.Proofs.YtajhegjemhegiaaDoor
open Go.RowKit TextNat

theorem bytes_of (w : World) (S : ByteArray) : ∃ c Wn, (convert 9 43 (.string S)).run Tryd.prog w = .ok (.slice (some ⟨w.heap.size, 0, none⟩) S.size c) Wn ∧ Below w.heap.size w Wn ∧ ∀ (j z : Nat), (nats S)[j]? = some z → Wn.cell? ⟨w.heap.size, j, none⟩ = some (.int .u8 (z : Int)) := by
  refine ⟨_, _, run_bytes_of_string (P := Tryd.prog) w 9 43 5 S Tryd.underlying9 Tryd.underlying43 Tryd.underlying5, (Below.refl _ _).drew.alloc (Nat.le_refl _) _, fun j z hj => ?_⟩
  have hlt : j < S.size := by
    rcases Nat.lt_or_ge j S.size with g | g
    · exact g
    · rw [List.getElem?_eq_none (by rw [nats_len]; exact g)] at hj; cases hj
  rw [nats_at S j hlt] at hj
  obtain rfl := Option.some.inj hj
  rw [cell_of_row _ w.heap.size j _ _ _ (heap_alloc_new w.drew _)]
  exact bytesRow_at S _ j hlt

theorem and_byte (z : Nat) (hz : z < 256) : bits .and .u8 (z : Int) 127 = ((z % 128 : Nat) : Int) := by
  have h1 : (BitVec.ofInt 8 (z : Int)).toNat = z := by rw [BitVec.ofInt_natCast, BitVec.toNat_ofNat]; exact Nat.mod_eq_of_lt (by omega)
  show IntKind.u8.wrap ((BitVec.ofInt 8 (z : Int) &&& BitVec.ofInt 8 127).toNat : Int) = _
  rw [BitVec.toNat_and, h1, show (BitVec.ofInt 8 127).toNat = 2 ^ 7 - 1 from rfl, Nat.and_two_pow_sub_one_eq_mod, IntKind.wrap_u8]
  omega
theorem or_high (n y k : Nat) (hn : n < 128 ^ k) (hn9 : n < 9223372036854775808) (hp : y * 128 ^ k < 9223372036854775808) (hs : n + y * 128 ^ k < 9223372036854775808) : bits .or .i64 (n : Int) ((y * 128 ^ k : Nat) : Int) = ((n + y * 128 ^ k : Nat) : Int) := by
  have h1 : (BitVec.ofInt 64 (n : Int)).toNat = n := by rw [BitVec.ofInt_natCast, BitVec.toNat_ofNat]; exact Nat.mod_eq_of_lt (by omega)
  have h2 : (BitVec.ofInt 64 ((y * 128 ^ k : Nat) : Int)).toNat = y * 128 ^ k := by rw [BitVec.ofInt_natCast, BitVec.toNat_ofNat]; exact Nat.mod_eq_of_lt (by omega)
  have e : (128 : Nat) ^ k = 2 ^ (7 * k) := by rw [Nat.pow_mul]
  have h3 : n ||| y * 128 ^ k = n + y * 128 ^ k := by
    rw [Nat.or_comm, Nat.mul_comm, e, ← Nat.two_pow_add_eq_or_of_lt (by rw [← e]; exact hn), Nat.add_comm]
  show IntKind.i64.wrap ((BitVec.ofInt 64 (n : Int) ||| BitVec.ofInt 64 ((y * 128 ^ k : Nat) : Int)).toNat : Int) = _
  rw [BitVec.toNat_or, h1, h2, h3, IntKind.wrap_i64]
  omega
theorem shift_high (y k p : Nat) (hp : p = y * 128 ^ k) : (y : Int) * 2 ^ (7 * k) = (p : Int) := by
  have e : (2 : Int) ^ (7 * k) = ((128 ^ k : Nat) : Int) := by rw [Int.pow_mul, Int.natCast_pow]; rfl
  rw [hp, Int.natCast_mul, e]
theorem group_fits (n y k p n2 : Nat) (hn : n < 128 ^ k) (hy : y < 128) (hk : k < 9) (hp : p = y * 128 ^ k) (hn2 : n2 = n + p) : n2 < 128 ^ (k + 1) ∧ p < 9223372036854775808 ∧ bits .or .i64 (n : Int) (p : Int) = (n2 : Int) := by
  have h1 : p ≤ 127 * 128 ^ k := by rw [hp]; exact Nat.mul_le_mul_right _ (Nat.le_of_lt_succ hy)
  have h2 : 128 ^ (k + 1) ≤ 9223372036854775808 := Nat.le_trans (Nat.pow_le_pow_right (by decide) hk) (by decide)
  have h3 : n2 < 128 ^ (k + 1) := by
    rw [Nat.pow_succ]
    omega
  refine ⟨h3, by omega, ?_⟩
  have h4 := or_high n y k hn (by omega) (by rw [← hp]; omega) (by rw [← hp]; omega)
  rw [← hp, ← hn2] at h4
  exact h4
theorem nats_extract (s : ByteArray) (a e : Nat) : nats (s.extract a e) = ((nats s).drop a).take (e - a) := by
  unfold nats
  rw [ByteArray.data_extract, Array.toList_extract, List.extract_eq_take_drop, List.map_take, List.map_drop]
/-- What number answers. -/
def NumIs (at_ : Nat) (o : Option (Nat × Nat)) (e : Ending) : Prop :=
  (∃ v k : Nat, o = some (v, k) ∧ v ≤ WireMath.top ∧ e = .returned (.tuple #[.int .i64 (v : Int), .int .i64 ((at_ + k : Nat) : Int), .bool true])) ∨
  ((∀ v k : Nat, o = some (v, k) → WireMath.top < v) ∧ ∃ a b : Int, e = .returned (.tuple #[.int .i64 a, .int .i64 b, .bool false]))

set_option maxRecDepth 100000 in
set_option maxHeartbeats 4000000 in
theorem number_ok (s : ByteArray) (at_ : Nat) (w : World) (hs : s.size ≤ 140737488355328) (ha : at_ ≤ s.size) :
    Calls Tryd.prog 76 #[.string s, .int .i64 (at_ : Int)] w fun e w' => NumIs at_ (WireMath.rawF 9 ((nats s).drop at_)) e ∧ Below w.heap.size w w' := by
  obtain ⟨e, he⟩ : ∃ e, e = min s.size (at_ + 9) := ⟨_, rfl⟩
  obtain ⟨S, hS⟩ : ∃ S, S = s.extract at_ e := ⟨_, rfl⟩
  have hSn : nats S = ((nats s).drop at_).take (e - at_) := by rw [hS]; exact nats_extract s at_ e
  obtain ⟨c, Wn, hcv, hbn, hcell⟩ := bytes_of w S
  obtain ⟨N, hN⟩ : ∃ N, N = S.size := ⟨_, rfl⟩
  rw [← hN] at hcv
  have hNe : N = e - at_ := by
    have := congrArg List.length hSn
    rw [nats_len, List.length_take, List.length_drop, nats_len] at this
    omega
  obtain ⟨L, hL⟩ : ∃ L, L = (nats s).drop at_ := ⟨_, rfl⟩
  rw [← hL]
  have hLl : L.length = s.size - at_ := by rw [hL, List.length_drop, nats_len]
  have hcell2 : ∀ k z, k < N → L[k]? = some z → Wn.cell? ⟨w.heap.size, k, none⟩ = some (.int .u8 (z : Int)) := fun k z hk hz => hcell k z (by
    rw [hSn, ← hL, List.getElem?_take, if_pos (by omega)]; exact hz)
  have g1 : at_ ≤ e := by omega
  have g2 : e ≤ s.size := by omega
  have g1' : (at_ : Int) ≤ (e : Int) := by omega
  have g2' : (e : Int) ≤ (s.size : Int) := by omega
  have HS := Lib.hid hS
  have HB := Lib.hid hbn
  have HC := Lib.hid hcell2
  have HL := Lib.hid hL
  have HLl := Lib.hid hLl
  have HNe := Lib.hid hNe
  have HLb := Lib.hid (show ∀ b ∈ L, b < 256 from fun b hb => nats_lt s b (by rw [hL] at hb; exact List.mem_of_mem_drop hb))
  have hN9 : N ≤ 9 := by omega
  have hcase : (s.size ≤ at_ + 9 ∧ s.size = e) ∨ (at_ + 9 < s.size ∧ at_ + 9 = e) := by omega
  rw [hS] at hcv
  clear hS hbn hcell he hcell2 hSn hN hL hLl hNe
  rcases hcase with ⟨h1, h2⟩ | ⟨h1, h2⟩
  · have t1 : (e : Int) ≤ (at_ : Int) + 9 := by omega
    go_enter Tryd.func76, Tryd.ntmps76
    go_wp2
    go_loopg [7, 21] 9 (fun gh s7 s21 wx => ∃ k n : Nat, k + gh = 9 ∧ s7 = .int .i64 (n : Int) ∧ s21 = .int .i64 (k : Int) ∧ k ≤ N ∧ Hid (n < 128 ^ k) ∧ Hid (WireMath.comb k n (WireMath.rawF (9 - k) (L.drop k)) = WireMath.rawF 9 L) ∧ wx = Wn)
    case atStart => exact ⟨0, 0, rfl, by go_num, by go_num, Nat.zero_le _, Lib.hid (by decide), Lib.hid (WireMath.comb_zero _), rfl⟩
    case round =>
      obtain ⟨k, n, hk, rfl, rfl, hkN, hn, hc, rfl⟩ := hrel
      by_cases hlt : k < N
      · have u2 : decide ((k : Int) < (N : Int)) = true := decide_eq_true (by omega)
        have u2' : decide (k < N) = true := decide_eq_true hlt
        have hkL : k < L.length := by have := HLl.out; have := HNe.out; omega
        have hk9 : k < 9 := by omega
        obtain ⟨z, hz⟩ : ∃ z, L[k]? = some z := ⟨_, List.getElem?_eq_getElem hkL⟩
        have hzl : z < 256 := HLb.out z (List.mem_of_getElem? hz)
        have cz := HC.out k z hlt hz
        obtain ⟨y, hy⟩ : ∃ y, y = z % 128 := ⟨_, rfl⟩
        have f1 : bits .and .u8 (z : Int) 127 = (y : Int) := by rw [hy]; exact and_byte z hzl
        have hyl : y < 128 := by omega
        have f2 : wrap64 (y : Int) = (y : Int) := by unfold wrap64; omega
        obtain ⟨p, hp⟩ : ∃ p, p = y * 128 ^ k := ⟨_, rfl⟩
        obtain ⟨n2, hn2⟩ : ∃ n2, n2 = n + p := ⟨_, rfl⟩
        obtain ⟨hn2l, hpl, f5⟩ := group_fits n y k p n2 hn.out hyl hk9 hp hn2
        have f4 : wrap64 (p : Int) = (p : Int) := by unfold wrap64; omega
        have HF3 := Lib.hid (shift_high y k p hp)
        have HN2 := Lib.hid hn2l
        have HEnd := Lib.hid (fun h => hc.out.symm.trans ((WireMath.comb_end (n := n) hk9 hz h).trans (by rw [← hy, ← hp, ← hn2])))
        have HGo := Lib.hid (fun h => ((WireMath.comb_go (n := n) hk9 hz h hzl).symm.trans hc.out).symm.trans (by rw [← hy, ← hp, ← hn2]))
        clear hz hp hn2 hy hn hc hpl hn2l hkL
        by_cases h128 : z < 128
        · have hend := HEnd.out h128
          have u3 : decide ((z : Int) < 128) = true := decide_eq_true (by omega)
          have u3' : decide (z < 128) = true := decide_eq_true h128
          have u3'' : (z : Int) < 128 := by omega
          clear HGo HEnd
          by_cases hz0 : z = 0
          · have u6 : ((z : Int) == 0) = true := by rw [beq_iff_eq]; omega
            have u6' : (z == 0) = true := by rw [beq_iff_eq]; omega
            by_cases hk0 : k = 0
            · have u7 : ((k : Int) == 0) = true := by rw [beq_iff_eq]; omega
              have u7' : (k == 0) = true := by rw [beq_iff_eq]; omega
              rw [if_neg (by omega)] at hend
              have f1' : bits .and .u8 0 127 = (y : Int) := by rw [← f1, hz0]; rfl
              have f5' : bits .or .i64 (n : Int) (y : Int) = (n2 : Int) := by
                have h3 := HF3.out
                rw [hk0] at h3
                simp only [Nat.mul_zero, Int.pow_zero, Int.mul_one] at h3
                rw [h3]; exact f5
              have cz' := cz
              rw [hk0] at cz'
              have cz'' := cz'
              rw [hz0] at cz''
              have v2 : decide (0 < N) = true := decide_eq_true (by omega)
              have v2' : decide ((0 : Int) < (N : Int)) = true := decide_eq_true (by omega)
              have v3 : 0 < N := by omega
              by_cases ht : n2 ≤ WireMath.top
              · have HE := Lib.hid (show NumIs at_ (WireMath.rawF 9 L) (.returned (.tuple #[.int .i64 (n2 : Int), .int .i64 ((at_ : Int) + 1), .bool true])) from .inl ⟨n2, k + 1, hend, ht, by rw [show (((at_ + (k + 1) : Nat)) : Int) = (at_ : Int) + 1 by omega]⟩)
                unfold WireMath.top at ht
                have u4 : decide ((n2 : Int) ≤ 4611686018427387903) = true := decide_eq_true (by omega)
                have u4' : decide (n2 ≤ 4611686018427387903) = true := decide_eq_true (by omega)
                have f3 := HF3.out
                clear hend
                go_wp2
                go_ret3
                exact ⟨HE.out, HB.out⟩
              · have HE := Lib.hid (show NumIs at_ (WireMath.rawF 9 L) (.returned (.tuple #[.int .i64 (n2 : Int), .int .i64 ((at_ : Int) + 1), .bool false])) from .inr ⟨(fun v k h => by rw [hend] at h; obtain ⟨rfl, rfl⟩ := Prod.mk.inj (Option.some.inj h); omega), _, _, rfl⟩)
                unfold WireMath.top at ht
                have u4 : decide ((n2 : Int) ≤ 4611686018427387903) = false := decide_eq_false (by omega)
                have u4' : decide (n2 ≤ 4611686018427387903) = false := decide_eq_false (by omega)
                have f3 := HF3.out
                clear hend
                go_wp2
                go_ret3
                exact ⟨HE.out, HB.out⟩
            · have u7 : ((k : Int) == 0) = false := by rw [beq_eq_false_iff_ne]; omega
              have u7' : (k == 0) = false := by rw [beq_eq_false_iff_ne]; omega
              rw [if_pos (by omega)] at hend
              have HE := Lib.hid (show NumIs at_ (WireMath.rawF 9 L) (.returned (.tuple #[.int .i64 (n2 : Int), .int .i64 ((at_ : Int) + (k : Int) + 1), .bool false])) from .inr ⟨(fun v k h => by rw [hend] at h; cases h), _, _, rfl⟩)
              have f3 := HF3.out
              have f1' : bits .and .u8 0 127 = (y : Int) := by rw [← f1, hz0]; rfl
              clear hend
              go_wp2
              go_ret3
              exact ⟨HE.out, HB.out⟩
          · have u6 : ((z : Int) == 0) = false := by rw [beq_eq_false_iff_ne]; omega
            have u6' : (z == 0) = false := by rw [beq_eq_false_iff_ne]; omega
            rw [if_neg (by omega)] at hend
            by_cases ht : n2 ≤ WireMath.top
            · have HE := Lib.hid (show NumIs at_ (WireMath.rawF 9 L) (.returned (.tuple #[.int .i64 (n2 : Int), .int .i64 ((at_ : Int) + (k : Int) + 1), .bool true])) from .inl ⟨n2, k + 1, hend, ht, by rw [show (((at_ + (k + 1) : Nat)) : Int) = (at_ : Int) + (k : Int) + 1 by omega]⟩)
              unfold WireMath.top at ht
              have u4 : decide ((n2 : Int) ≤ 4611686018427387903) = true := decide_eq_true (by omega)
              have u4' : decide (n2 ≤ 4611686018427387903) = true := decide_eq_true (by omega)
              have f3 := HF3.out
              clear hend
              go_wp2
              go_ret3
              exact ⟨HE.out, HB.out⟩
            · have HE := Lib.hid (show NumIs at_ (WireMath.rawF 9 L) (.returned (.tuple #[.int .i64 (n2 : Int), .int .i64 ((at_ : Int) + (k : Int) + 1), .bool false])) from .inr ⟨(fun v k h => by rw [hend] at h; obtain ⟨rfl, rfl⟩ := Prod.mk.inj (Option.some.inj h); omega), _, _, rfl⟩)
              unfold WireMath.top at ht
              have u4 : decide ((n2 : Int) ≤ 4611686018427387903) = false := decide_eq_false (by omega)
              have u4' : decide (n2 ≤ 4611686018427387903) = false := decide_eq_false (by omega)
              have f3 := HF3.out
              clear hend
              go_wp2
              go_ret3
              exact ⟨HE.out, HB.out⟩
        · have u3 : decide ((z : Int) < 128) = false := decide_eq_false (by omega)
          have u3' : decide (z < 128) = false := decide_eq_false h128
          have u3'' : ¬ (z : Int) < 128 := by omega
          have HG := Lib.hid (HGo.out (by omega))
          have f3 := HF3.out
          clear HGo HEnd
          go_wp2
          clear f3
          go_roundg (9 - (k + 1))
          case measure => omega
          case rel => exact ⟨k + 1, n2, by omega, by go_num, by go_num, by omega, HN2, Lib.hid HG.out.symm, rfl⟩
      · obtain rfl : k = N := by omega
        have hnone := WireMath.comb_none (l := L) (k := k) (n := n) (by have := HLl.out; have := HNe.out; omega)
        rw [hc.out] at hnone
        have HE := Lib.hid (show NumIs at_ (WireMath.rawF 9 L) (.returned (.tuple #[.int .i64 0, .int .i64 0, .bool false])) from .inr ⟨(fun v k h => by rw [hnone] at h; cases h), 0, 0, rfl⟩)
        have u2' : decide (k < k) = false := decide_eq_false (by omega)
        clear hn hc hnone
        go_wp2
        go_ret3
        exact ⟨HE.out, HB.out⟩
  · have t1 : ¬ ((s.size : Int) ≤ (at_ : Int) + 9) := by omega
    have t2 : (at_ : Int) + 9 = (e : Int) := by omega
    go_enter Tryd.func76, Tryd.ntmps76
    go_wp2
    go_loopg [7, 21] 9 (fun gh s7 s21 wx => ∃ k n : Nat, k + gh = 9 ∧ s7 = .int .i64 (n : Int) ∧ s21 = .int .i64 (k : Int) ∧ k ≤ N ∧ Hid (n < 128 ^ k) ∧ Hid (WireMath.comb k n (WireMath.rawF (9 - k) (L.drop k)) = WireMath.rawF 9 L) ∧ wx = Wn)
    case atStart => exact ⟨0, 0, rfl, by go_num, by go_num, Nat.zero_le _, Lib.hid (by decide), Lib.hid (WireMath.comb_zero _), rfl⟩
    case round =>
      obtain ⟨k, n, hk, rfl, rfl, hkN, hn, hc, rfl⟩ := hrel
      by_cases hlt : k < N
      · have u2 : decide ((k : Int) < (N : Int)) = true := decide_eq_true (by omega)
        have u2' : decide (k < N) = true := decide_eq_true hlt
        have hkL : k < L.length := by have := HLl.out; have := HNe.out; omega
        have hk9 : k < 9 := by omega
        obtain ⟨z, hz⟩ : ∃ z, L[k]? = some z := ⟨_, List.getElem?_eq_getElem hkL⟩
        have hzl : z < 256 := HLb.out z (List.mem_of_getElem? hz)
        have cz := HC.out k z hlt hz
        obtain ⟨y, hy⟩ : ∃ y, y = z % 128 := ⟨_, rfl⟩
        have f1 : bits .and .u8 (z : Int) 127 = (y : Int) := by rw [hy]; exact and_byte z hzl
        have hyl : y < 128 := by omega
        have f2 : wrap64 (y : Int) = (y : Int) := by unfold wrap64; omega
        obtain ⟨p, hp⟩ : ∃ p, p = y * 128 ^ k := ⟨_, rfl⟩
        obtain ⟨n2, hn2⟩ : ∃ n2, n2 = n + p := ⟨_, rfl⟩
        obtain ⟨hn2l, hpl, f5⟩ := group_fits n y k p n2 hn.out hyl hk9 hp hn2
        have f4 : wrap64 (p : Int) = (p : Int) := by unfold wrap64; omega
        have HF3 := Lib.hid (shift_high y k p hp)
        have HN2 := Lib.hid hn2l
        have HEnd := Lib.hid (fun h => hc.out.symm.trans ((WireMath.comb_end (n := n) hk9 hz h).trans (by rw [← hy, ← hp, ← hn2])))
        have HGo := Lib.hid (fun h => ((WireMath.comb_go (n := n) hk9 hz h hzl).symm.trans hc.out).symm.trans (by rw [← hy, ← hp, ← hn2]))
        clear hz hp hn2 hy hn hc hpl hn2l hkL
        by_cases h128 : z < 128
        · have hend := HEnd.out h128
          have u3 : decide ((z : Int) < 128) = true := decide_eq_true (by omega)
          have u3' : decide (z < 128) = true := decide_eq_true h128
          have u3'' : (z : Int) < 128 := by omega
          clear HGo HEnd
          by_cases hz0 : z = 0
          · have u6 : ((z : Int) == 0) = true := by rw [beq_iff_eq]; omega
            have u6' : (z == 0) = true := by rw [beq_iff_eq]; omega
            by_cases hk0 : k = 0
            · have u7 : ((k : Int) == 0) = true := by rw [beq_iff_eq]; omega
              have u7' : (k == 0) = true := by rw [beq_iff_eq]; omega
              rw [if_neg (by omega)] at hend
              have f1' : bits .and .u8 0 127 = (y : Int) := by rw [← f1, hz0]; rfl
              have f5' : bits .or .i64 (n : Int) (y : Int) = (n2 : Int) := by
                have h3 := HF3.out
                rw [hk0] at h3
                simp only [Nat.mul_zero, Int.pow_zero, Int.mul_one] at h3
                rw [h3]; exact f5
              have cz' := cz
              rw [hk0] at cz'
              have cz'' := cz'
              rw [hz0] at cz''
              have v2 : decide (0 < N) = true := decide_eq_true (by omega)
              have v2' : decide ((0 : Int) < (N : Int)) = true := decide_eq_true (by omega)
              have v3 : 0 < N := by omega
              by_cases ht : n2 ≤ WireMath.top
              · have HE := Lib.hid (show NumIs at_ (WireMath.rawF 9 L) (.returned (.tuple #[.int .i64 (n2 : Int), .int .i64 ((at_ : Int) + 1), .bool true])) from .inl ⟨n2, k + 1, hend, ht, by rw [show (((at_ + (k + 1) : Nat)) : Int) = (at_ : Int) + 1 by omega]⟩)
                unfold WireMath.top at ht
                have u4 : decide ((n2 : Int) ≤ 4611686018427387903) = true := decide_eq_true (by omega)
                have u4' : decide (n2 ≤ 4611686018427387903) = true := decide_eq_true (by omega)
                have f3 := HF3.out
                clear hend
                go_wp2
                go_ret3
                exact ⟨HE.out, HB.out⟩
              · have HE := Lib.hid (show NumIs at_ (WireMath.rawF 9 L) (.returned (.tuple #[.int .i64 (n2 : Int), .int .i64 ((at_ : Int) + 1), .bool false])) from .inr ⟨(fun v k h => by rw [hend] at h; obtain ⟨rfl, rfl⟩ := Prod.mk.inj (Option.some.inj h); omega), _, _, rfl⟩)
                unfold WireMath.top at ht
                have u4 : decide ((n2 : Int) ≤ 4611686018427387903) = false := decide_eq_false (by omega)
                have u4' : decide (n2 ≤ 4611686018427387903) = false := decide_eq_false (by omega)
                have f3 := HF3.out
                clear hend
                go_wp2
                go_ret3
                exact ⟨HE.out, HB.out⟩
            · have u7 : ((k : Int) == 0) = false := by rw [beq_eq_false_iff_ne]; omega
              have u7' : (k == 0) = false := by rw [beq_eq_false_iff_ne]; omega
              rw [if_pos (by omega)] at hend
              have HE := Lib.hid (show NumIs at_ (WireMath.rawF 9 L) (.returned (.tuple #[.int .i64 (n2 : Int), .int .i64 ((at_ : Int) + (k : Int) + 1), .bool false])) from .inr ⟨(fun v k h => by rw [hend] at h; cases h), _, _, rfl⟩)
              have f3 := HF3.out
              have f1' : bits .and .u8 0 127 = (y : Int) := by rw [← f1, hz0]; rfl
              clear hend
              go_wp2
              go_ret3
              exact ⟨HE.out, HB.out⟩
          · have u6 : ((z : Int) == 0) = false := by rw [beq_eq_false_iff_ne]; omega
            have u6' : (z == 0) = false := by rw [beq_eq_false_iff_ne]; omega
            rw [if_neg (by omega)] at hend
            by_cases ht : n2 ≤ WireMath.top
            · have HE := Lib.hid (show NumIs at_ (WireMath.rawF 9 L) (.returned (.tuple #[.int .i64 (n2 : Int), .int .i64 ((at_ : Int) + (k : Int) + 1), .bool true])) from .inl ⟨n2, k + 1, hend, ht, by rw [show (((at_ + (k + 1) : Nat)) : Int) = (at_ : Int) + (k : Int) + 1 by omega]⟩)
              unfold WireMath.top at ht
              have u4 : decide ((n2 : Int) ≤ 4611686018427387903) = true := decide_eq_true (by omega)
              have u4' : decide (n2 ≤ 4611686018427387903) = true := decide_eq_true (by omega)
              have f3 := HF3.out
              clear hend
              go_wp2
              go_ret3
              exact ⟨HE.out, HB.out⟩
            · have HE := Lib.hid (show NumIs at_ (WireMath.rawF 9 L) (.returned (.tuple #[.int .i64 (n2 : Int), .int .i64 ((at_ : Int) + (k : Int) + 1), .bool false])) from .inr ⟨(fun v k h => by rw [hend] at h; obtain ⟨rfl, rfl⟩ := Prod.mk.inj (Option.some.inj h); omega), _, _, rfl⟩)
              unfold WireMath.top at ht
              have u4 : decide ((n2 : Int) ≤ 4611686018427387903) = false := decide_eq_false (by omega)
              have u4' : decide (n2 ≤ 4611686018427387903) = false := decide_eq_false (by omega)
              have f3 := HF3.out
              clear hend
              go_wp2
              go_ret3
              exact ⟨HE.out, HB.out⟩
        · have u3 : decide ((z : Int) < 128) = false := decide_eq_false (by omega)
          have u3' : decide (z < 128) = false := decide_eq_false h128
          have u3'' : ¬ (z : Int) < 128 := by omega
          have HG := Lib.hid (HGo.out (by omega))
          have f3 := HF3.out
          clear HGo HEnd
          go_wp2
          clear f3
          go_roundg (9 - (k + 1))
          case measure => omega
          case rel => exact ⟨k + 1, n2, by omega, by go_num, by go_num, by omega, HN2, Lib.hid HG.out.symm, rfl⟩
      · obtain rfl : k = N := by omega
        have hnone := WireMath.comb_none (l := L) (k := k) (n := n) (by have := HLl.out; have := HNe.out; omega)
        rw [hc.out] at hnone
        have HE := Lib.hid (show NumIs at_ (WireMath.rawF 9 L) (.returned (.tuple #[.int .i64 0, .int .i64 0, .bool false])) from .inr ⟨(fun v k h => by rw [hnone] at h; cases h), 0, 0, rfl⟩)
        have u2' : decide (k < k) = false := decide_eq_false (by omega)
        clear hn hc hnone
        go_wp2
        go_ret3
        exact ⟨HE.out, HB.out⟩
end Go.Proofs.YtajhegjemhegiaaDoor
