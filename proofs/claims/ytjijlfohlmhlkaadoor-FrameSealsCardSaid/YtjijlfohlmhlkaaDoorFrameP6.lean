/-
  What stands at the beginning of a text, of chapter 9: bytes.Equal, first. No conditions but those typed.
-/
import Derived.Test.YtjijlfohlmhlkaaDoorFrameP5
import Derived.Test.YtjijlfohlmhlkaaDoorFrameRef3
namespace FrameMath
theorem stands_not {z : Nat} {r : List Nat} (h : z ≠ 1) : stands (z :: r) = none := by
  unfold stands
  split
  · rename_i r' h'
    exact absurd (List.cons.inj h').1 h
  · rfl
/-- What stands behind the byte at a frame's beginning. -/
theorem stands_one {r D : List Nat} (hD : D = bytesOf r) {n : Nat} (hn : n = D.getD 0 0 * 256 + D.getD 1 0) :
    stands (1 :: r) = if D.length < 10 then none else if 8192 < n ∨ D.length - 10 < n then none else if rawF ((D.drop 6).take n) = D.take (10 + n) then some ((D.drop 6).take n) else none := by
  unfold stands
  simp only []
  rw [← hD, ← hn]
end FrameMath
namespace Go.Proofs.YtjijlfohlmhlkaaDoor
open Go.RowKit FrameMath TextNat CrcMath

theorem txt_beq (xs ys : List Nat) (hx : Oct xs) (hy : Oct ys) : ((txt xs).toList == (txt ys).toList) = decide (xs = ys) := by
  rw [Bool.eq_iff_iff, beq_iff_eq, decide_eq_true_eq, ByteArray.toList_eq, ByteArray.toList_eq]
  constructor
  · intro he
    have he2 : txt xs = txt ys := by
      apply ByteArray.ext
      exact Array.toList_inj.1 he
    have := congrArg nats he2
    rwa [nats_txt xs hx, nats_txt ys hy] at this
  · intro h
    rw [h]
set_option maxRecDepth 100000 in
set_option maxHeartbeats 4000000 in
theorem equal_ok (xs ys : List Nat) (g h cx cy n m : Nat) (w : World) (hn : n = xs.length) (hm : m = ys.length) (hx : Oct xs) (hy : Oct ys) (gx : ∀ i z : Nat, xs[i]? = some z → w.cell? ⟨g, i, none⟩ = some (.int .u8 (z : Int))) (gy : ∀ i z : Nat, ys[i]? = some z → w.cell? ⟨h, i, none⟩ = some (.int .u8 (z : Int))) :
    Calls Tryd.prog 31 #[.slice (some ⟨g, 0, none⟩) n cx, .slice (some ⟨h, 0, none⟩) m cy] w fun e w' => e = .returned (.bool (decide (xs = ys))) ∧ w' = w := by
  have k1 := text_from w g 0 cx xs hx (fun j z hz => by rw [Nat.zero_add]; exact gx j z hz)
  have k2 := text_from w h 0 cy ys hy (fun j z hz => by rw [Nat.zero_add]; exact gy j z hz)
  have HT := Lib.hid (txt_beq xs ys hx hy)
  rw [← hn] at k1
  rw [← hm] at k2
  clear gx gy hx hy hn hm
  obtain ⟨X, hX⟩ : ∃ X, X = txt xs := ⟨_, rfl⟩
  obtain ⟨Y, hY⟩ : ∃ Y, Y = txt ys := ⟨_, rfl⟩
  rw [← hX] at k1 HT
  rw [← hY] at k2 HT
  clear hX hY
  go_enter Tryd.func31, Tryd.ntmps31
  go_wp2
  go_ret
  exact ⟨by rw [← HT.out]; rfl, rfl⟩
/-- What stands at the beginning, as first answers it. -/
def FirstIs (l : List Nat) (e : Ending) : Prop := match stands l with
  | some p => e = .returned (.tuple #[.string (txt p), .bool true])
  | none => e = .returned (.tuple #[.string ⟨#[]⟩, .bool false])
theorem FirstIs.not {l : List Nat} {e : Ending} (h : stands l = Option.none) (he : e = .returned (.tuple #[.string ⟨#[]⟩, .bool false])) : FirstIs l e := by
  unfold FirstIs
  rw [h]
  exact he
theorem FirstIs.is {l p : List Nat} {P : ByteArray} {e : Ending} (h : stands l = Option.some p) (hP : P = txt p) (he : e = .returned (.tuple #[.string P, .bool true])) : FirstIs l e := by
  unfold FirstIs
  rw [h]
  rw [hP] at he
  exact he
theorem gathered_no {B : Nat} {r : List Nat} {n : Nat} {e : Ending} {w' : World} (h : GatherIs B r n e w') (hn : ¬ n ≤ (bytesOf r).length) : e = .returned (.tuple #[.slice none 0 0, .bool false]) := by
  unfold GatherIs at h
  rwa [if_neg hn] at h
theorem gathered_yes {B : Nat} {r : List Nat} {n : Nat} {e : Ending} {w' : World} (h : GatherIs B r n e w') (hn : n ≤ (bytesOf r).length) : ∃ g, e = .returned (.tuple #[.slice (some ⟨g, 0, none⟩) n n, .bool true]) ∧ Own8 w' B (.slice (some ⟨g, 0, none⟩) n n) ((bytesOf r).take n) := by
  unfold GatherIs at h
  rwa [if_pos hn] at h
theorem nats_from (s : ByteArray) : nats (s.extract 1 s.size) = (nats s).drop 1 := by
  unfold nats
  rw [ByteArray.data_extract]
  simp [Array.toList_extract, List.extract]
  rw [List.take_of_length_le (by simp)]
theorem ofInt_i64w (a : Nat) (ha : a < 9223372036854775808) : (BitVec.ofInt 64 (a : Int)).toNat = a := by
  rw [BitVec.ofInt_natCast, BitVec.toNat_ofNat]; exact Nat.mod_eq_of_lt (by omega)
theorem i64_or_two (a b : Nat) (ha : a < 9223372036854775808) (hb : b < 9223372036854775808) : bits .or .i64 (a : Int) (b : Int) = ((a ||| b : Nat) : Int) := by
  have hx : a ||| b < 2 ^ 63 := Nat.or_lt_two_pow (by omega) (by omega)
  show IntKind.i64.wrap ((BitVec.ofInt 64 (a : Int) ||| BitVec.ofInt 64 (b : Int)).toNat : Int) = _
  rw [BitVec.toNat_or, ofInt_i64w a ha, ofInt_i64w b hb, IntKind.wrap_i64]
  omega
theorem length_bits (x y : Nat) (hy : y < 256) (hx : x < 256) : bits .or .i64 ((x * 256 : Nat) : Int) (y : Int) = ((x * 256 + y : Nat) : Int) := by
  have h1 := i64_or_two (x * 256) y (by omega) (by omega)
  have h2 := Nat.two_pow_add_eq_or_of_lt (show y < 2 ^ 8 from hy) x
  rw [show 2 ^ 8 * x = x * 256 by omega] at h2
  rw [h1, ← h2]
set_option maxRecDepth 100000 in
set_option maxHeartbeats 8000000 in
theorem first_ok (s : ByteArray) (w : World) (hT : Tables w) (hs : s.size ≤ 100000) (h0 : 0 < s.size) :
    Calls Tryd.prog 21 #[.string s] w fun e w' => FirstIs (nats s) e ∧ Below w.heap.size w w' := by
  obtain ⟨m, hm⟩ : ∃ m, m = s.size := ⟨_, rfl⟩
  have e1 : (s.size : Int) = (m : Int) := by omega
  have HM := Lib.hid hm
  have HT := Lib.hid hT
  have HB0 := Lib.hid (Below.refl w.heap.size w)
  obtain ⟨z, hz⟩ : ∃ z, z = (s[0]'h0).toNat := ⟨_, rfl⟩
  have hzx : ((s[0]'h0).toNat : Int) = (z : Int) := by rw [hz]
  obtain ⟨r, hr⟩ : ∃ r, r = nats (s.extract 1 s.size) := ⟨_, rfl⟩
  have hcons : nats s = z :: r := by
    rw [hr, nats_from s]
    have h1 : 0 < (nats s).length := by rw [nats_len]; exact h0
    have h2 := nats_at s 0 h0
    rw [← hz] at h2
    have h3 := List.drop_eq_getElem_cons h1
    rw [List.drop_zero] at h3
    rw [(List.getElem?_eq_some_iff.1 h2).2] at h3
    exact h3
  rw [hcons]
  obtain ⟨S, hS⟩ : ∃ S, S = s.extract 1 s.size := ⟨_, rfl⟩
  have HS := Lib.hid hS
  have HSz := Lib.hid (show S.size ≤ 100000 by rw [hS, ByteArray.size_extract]; omega)
  rw [← hS] at hr
  have HR := Lib.hid hr
  have h1m : 1 ≤ s.size := h0
  have h1m' : 1 ≤ m := by omega
  clear hT hz hcons hr hS hm
  by_cases hz1 : z = 1
  case neg =>
    have t2 : ((z : Int) == 1) = false := by rw [beq_eq_false_iff_ne]; omega
    have t2' : ((z : Int) != 1) = true := by rw [bne, t2]; rfl
    have HX := Lib.hid (stands_not (r := r) hz1)
    clear hz1
    go_enter Tryd.func21, Tryd.ntmps21
    go_wp2
    go_ret2
    exact ⟨FirstIs.not HX.out rfl, HB0.out⟩
  case pos =>
    subst hz1
    go_enter Tryd.func21, Tryd.ntmps21
    go_wp2_with fail
    rw [← HS.out]
    refine (gathered_ok S 2 w HSz.out (by omega)).mono ?_
    rintro e w1 ⟨h1, b1⟩
    rw [← HR.out] at h1
    by_cases h2 : 2 ≤ (bytesOf r).length
    case neg =>
      obtain rfl := gathered_no h1 h2
      have HX := Lib.hid (show stands (1 :: r) = none by rw [stands_one rfl rfl, if_pos (by omega)])
      have HB := Lib.hid b1
      clear h1 b1 h2
      go_wp2
      go_ret2
      exact ⟨FirstIs.not HX.out rfl, HB.out⟩
    case pos =>
      obtain ⟨g, rfl, o1⟩ := gathered_yes h1 h2
      obtain ⟨-, -, hgl, hcl, -⟩ := o1.block
      obtain ⟨x, hx⟩ : ∃ x, (bytesOf r)[0]? = some x := ⟨_, List.getElem?_eq_getElem (by omega)⟩
      obtain ⟨y, hy⟩ : ∃ y, (bytesOf r)[1]? = some y := ⟨_, List.getElem?_eq_getElem (by omega)⟩
      have hx256 := bytesOf_lt r x (List.mem_of_getElem? hx)
      have hy256 := bytesOf_lt r y (List.mem_of_getElem? hy)
      obtain ⟨W, hW⟩ : ∃ W, W = w1.drew := ⟨_, rfl⟩
      have c0 : w1.cell? ⟨g, 0, none⟩ = some (.int .u8 (x : Int)) := hcl 0 x (by rw [List.getElem?_take, if_pos (by omega)]; exact hx)
      have c1 : w1.cell? ⟨g, 1, none⟩ = some (.int .u8 (y : Int)) := hcl 1 y (by rw [List.getElem?_take, if_pos (by omega)]; exact hy)
      obtain ⟨n, hn⟩ : ∃ n, n = x * 256 + y := ⟨_, rfl⟩
      obtain ⟨X, hX⟩ : ∃ X, X = x * 256 := ⟨_, rfl⟩
      have k1 : IntKind.i64.wrap (x : Int) = (x : Int) := by rw [IntKind.wrap_i64]; omega
      have k2 : IntKind.i64.wrap (y : Int) = (y : Int) := by rw [IntKind.wrap_i64]; omega
      have k3 : IntKind.i64.wrap ((x : Int) * 256) = (X : Int) := by rw [IntKind.wrap_i64]; omega
      have k4 : bits .or .i64 (X : Int) (y : Int) = (n : Int) := by rw [hX, hn]; exact length_bits x y hy256 hx256
      have HN := Lib.hid (show n = (bytesOf r).getD 0 0 * 256 + (bytesOf r).getD 1 0 by rw [hn, List.getD_eq_getElem?_getD, List.getD_eq_getElem?_getD, hx, hy]; rfl)
      have HN6 := Lib.hid (show n < 65536 by omega)
      have HW := Lib.hid hW
      have HB := Lib.hid (show Below w.heap.size w W by rw [hW]; exact b1.drew)
      have H2 := Lib.hid h2
      clear h1 b1 h2 o1 hcl hx hy hn hX hW
      go_wp2_with fail
      go_region
      rw [← HW.out]
      clear HW c0 c1 hgl
      by_cases h8 : 8192 < n
      case pos =>
        have u1 : decide ((8192 : Int) < (n : Int)) = true := decide_eq_true (by omega)
        have u1' : decide (8192 < n) = true := decide_eq_true h8
        have HX := Lib.hid (show stands (1 :: r) = none by
          rw [stands_one rfl HN.out]
          split
          · rfl
          · rw [if_pos (Or.inl h8)])
        clear h8
        go_wp2_with fail
        go_ret2
        exact ⟨FirstIs.not HX.out rfl, HB.out⟩
      case neg =>
        have u1 : decide ((8192 : Int) < (n : Int)) = false := decide_eq_false (by omega)
        have u1' : decide (8192 < n) = false := decide_eq_false h8
        obtain ⟨M, hM⟩ : ∃ M, M = 10 + n := ⟨_, rfl⟩
        have k5 : IntKind.i64.wrap (10 + (n : Int)) = (M : Int) := by rw [IntKind.wrap_i64]; omega
        have HM2 := Lib.hid hM
        have H8 := Lib.hid h8
        clear hM h8
        go_wp2_with fail
        rw [← HS.out]
        refine (gathered_ok S M W HSz.out (by have := HM2.out; have := HN6.out; omega)).mono ?_
        rintro e w2 ⟨h1, b1⟩
        rw [← HR.out] at h1
        have HB2 := Lib.hid (HB.out.trans (b1.mono HB.out.size))
        clear b1
        by_cases h2 : M ≤ (bytesOf r).length
        case neg =>
          obtain rfl := gathered_no h1 h2
          have HX := Lib.hid (show stands (1 :: r) = none by
            rw [stands_one rfl HN.out]
            split
            · rfl
            · rw [if_pos (Or.inr (by have := HM2.out; omega))])
          clear h1 h2
          go_wp2
          go_ret2
          exact ⟨FirstIs.not HX.out rfl, HB2.out⟩
        case pos =>
          obtain ⟨g2, rfl, o2⟩ := gathered_yes h1 h2
          obtain ⟨-, -, hgl, hcl, -⟩ := o2.block
          obtain ⟨P, hP⟩ : ∃ P, P = ((bytesOf r).drop 6).take n := ⟨_, rfl⟩
          have hPl : P.length = n := by rw [hP, List.length_take, List.length_drop]; have := HM2.out; omega
          have hPo : Oct P := fun b hb => bytesOf_lt r b (by rw [hP] at hb; exact List.mem_of_mem_drop (List.mem_of_mem_take hb))
          have hPc : ∀ (j z : Nat), P[j]? = some z → w2.cell? ⟨g2, 6 + j, none⟩ = some (.int .u8 (z : Int)) := fun j z hj => hcl (6 + j) z (by
            rw [hP, List.getElem?_take] at hj
            split at hj
            · rename_i hjn
              rw [List.getElem?_drop] at hj
              rw [List.getElem?_take, if_pos (by have := HM2.out; omega)]
              exact hj
            · cases hj)
          have HPT := Lib.hid (fun cap => text_from w2 g2 6 cap P hPo hPc)
          rw [hPl] at HPT
          have HP := Lib.hid hP
          have HPL := Lib.hid hPl
          have HPO := Lib.hid hPo
          have HC := Lib.hid hcl
          have HGL := Lib.hid hgl
          have HO2 := Lib.hid o2
          have HH2 := Lib.hid h2
          obtain ⟨N6, hN6⟩ : ∃ N6, N6 = 6 + n := ⟨_, rfl⟩
          have k6 : IntKind.i64.wrap (6 + (n : Int)) = (N6 : Int) := by rw [IntKind.wrap_i64]; have := HN6.out; omega
          have l1 : 6 ≤ N6 := by omega
          have l2 : N6 ≤ M := by have := HM2.out; omega
          have l3 : N6 - 6 = n := by omega
          have l4 : (6 : Int) ≤ (N6 : Int) := by omega
          have l5 : (N6 : Int) ≤ (M : Int) := by omega
          have l6 : ((N6 : Int) - 6).toNat = n := by omega
          have l7 : 6 < M := by have := HM2.out; omega
          have l8 : ¬ 6 = M := by omega
          have l9 : ¬ M = 6 := by omega
          obtain ⟨C6, hC6⟩ : ∃ C6, C6 = M - 6 := ⟨_, rfl⟩
          have l10 : M - 6 = C6 := by omega
          have kc := HPT.out C6
          obtain ⟨PT, hPT⟩ : ∃ PT, PT = txt P := ⟨_, rfl⟩
          rw [← hPT] at kc
          have HPP := Lib.hid hPT
          have HPS := Lib.hid (show PT.size = n by rw [hPT, txt_len, hPl])
          have HPN := Lib.hid (show nats PT = P by rw [hPT]; exact nats_txt P hPo)
          clear h1 hP hPl hPo hPc hcl hgl o2 h2 hN6 hC6 hPT HPT
          go_wp2_with fail
          refine (raw_ok PT w2 (HT.out.grown HB2.out) (by have := HPS.out; have := H8.out; omega)).mono ?_
          rintro e w3 ⟨⟨v3, rfl, o3⟩, b3⟩
          rw [HPN.out] at o3
          obtain ⟨R3, hR3⟩ : ∃ R3, R3 = rawF P := ⟨_, rfl⟩
          rw [← hR3] at o3
          obtain ⟨g3, cap3, rfl, -, hc3⟩ := o3.cells (by rw [hR3, rawF_len]; omega)
          obtain ⟨N3, hN3⟩ : ∃ N3, N3 = R3.length := ⟨_, rfl⟩
          rw [← hN3]
          have HE := Lib.hid (equal_ok ((bytesOf r).take M) R3 g2 g3 M cap3 M N3 w3 (by rw [List.length_take]; have := HH2.out; omega) hN3 (fun b hb => bytesOf_lt r b (List.mem_of_mem_take hb)) (by rw [hR3]; exact rawF_bytes (by rw [HPL.out]; have := H8.out; omega) HPO.out)
            (fun i z hz => (b3.cell (p := ⟨g2, i, none⟩) HGL.out).trans (HC.out i z hz)) hc3)
          have HR3 := Lib.hid hR3
          have HB3 := Lib.hid (HB2.out.trans (b3.mono HB2.out.size))
          clear o3 b3 hc3 hR3 hN3 l1 l2 l3 l4 l5 l6 l7 l8 l9 l10 kc k6
          go_wp2_with fail
          refine HE.out.mono ?_
          rintro e w4 ⟨rfl, rfl⟩
          by_cases hq : (bytesOf r).take M = R3
          case pos =>
            rw [decide_eq_true hq]
            have HX := Lib.hid (show stands (1 :: r) = some P by
              rw [stands_one rfl HN.out, if_neg (by have := HM2.out; have := HH2.out; omega), if_neg (by have := HM2.out; have := HH2.out; have := H8.out; omega), ← HP.out, ← HR3.out, ← hq, HM2.out, if_pos rfl])
            clear hq
            go_wp2
            go_ret2
            exact ⟨FirstIs.is HX.out HPP.out rfl, HB3.out⟩
          case neg =>
            rw [decide_eq_false hq]
            have HX := Lib.hid (show stands (1 :: r) = none by
              rw [stands_one rfl HN.out, if_neg (by have := HM2.out; have := HH2.out; omega), if_neg (by have := HM2.out; have := HH2.out; have := H8.out; omega), ← HP.out, ← HR3.out, ← HM2.out, if_neg (fun h => hq h.symm)])
            clear hq
            go_wp2
            go_ret2
            exact ⟨FirstIs.not HX.out rfl, HB3.out⟩
end Go.Proofs.YtjijlfohlmhlkaaDoor
