/-
  The document's own device of chapter 8: Crash. The conditions: the device's cells.
-/
import Derived.Test.YtfdldjhndfohhaaDoorBlockRef3
import Derived.Test.YtfdldjhndfohhaaDoorGrow
import Derived.Test.YtfdldjhndfohhaaDoorBlockKeepMath
namespace Go.Proofs.YtfdldjhndfohhaaDoor
open Go.RowKit BlockMath TextNat

theorem take_more {α : Type} {l : List α} {i : Nat} {x : α} (h : l[i]? = some x) : l.take (i + 1) = l.take i ++ [x] := by
  rw [List.take_add_one, h]
  rfl
theorem cell_heap {w w' : World} (h : w'.heap = w.heap) (a : Addr) : w'.cell? a = w.cell? a := by simp [World.cell?, h]
theorem tmod_neg {k b : Int} (hb : 0 < b) (h : k.tmod b < 0) : k.tmod b + b = k % b := by
  have h0 := Int.emod_nonneg k (show b ≠ 0 by omega)
  have h1 := Int.emod_lt_of_pos k hb
  have h2 := Int.tmod_eq_emod (a := k) (b := b)
  split at h2 <;> omega
theorem tmod_pos {k b : Int} (hb : 0 < b) (h : ¬ k.tmod b < 0) : k.tmod b = k % b := by
  have h0 := Int.emod_nonneg k (show b ≠ 0 by omega)
  have h1 := Int.emod_lt_of_pos k hb
  have h2 := Int.tmod_eq_emod (a := k) (b := b)
  split at h2 <;> omega
set_option maxRecDepth 100000 in
set_option maxHeartbeats 4000000 in
theorem refCrash (v : Nat) (d : Dk) (k : Int) (mask : ByteArray) (w : World) (h : Rd w v d) (ok : Ok d) (hm : mask.size ≤ 1000000) :
    Calls Tryd.prog 28 #[ptr v, .int .i64 k, .string mask] w fun e w' => e = .returned (.tuple #[]) ∧ Rd w' v (crash k mask d) ∧ But v w w' := by
  obtain ⟨ib, hib, hb0, hb1, hb2⟩ := info_parts info_byte
  have H := Lib.hid h
  have c1 := Lies.cell (i := 1) h rfl
  have kA := ok.all
  obtain ⟨L, hL⟩ : ∃ L, L = d.late := ⟨_, rfl⟩
  obtain ⟨n, hn⟩ : ∃ n, n = stays k d := ⟨_, rfl⟩
  have hns : (n : Int) = k % ((L.size : Int) + 1) := by
    rw [hn, hL]
    unfold stays
    have := Int.emod_nonneg k (show (d.late.size : Int) + 1 ≠ 0 by omega)
    omega
  have hnL : n ≤ L.size := by rw [hn, hL]; exact stays_le k d
  rw [← hL] at c1 kA
  have HLL := Lib.hid hL
  obtain ⟨T, hT⟩ : ∃ T, T = kept L mask n := ⟨_, rfl⟩
  have HTL := Lib.hid (show T.length = n by rw [hT]; exact kept_len L mask hnL)
  have HTT := Lib.hid (show ∀ b ∈ T, b < 256 by rw [hT]; exact kept_lt L mask n)
  have HTA := Lib.hid (show ∀ i c : Nat, i < n → (nats L)[i]? = some c → T[i]? = some (left mask i c) by rw [hT]; exact fun i c hi hc => kept_at hi hc)
  have HX := Lib.hid (show crash k mask d = { done := d.done ++ txt T, late := ByteArray.empty, room := d.room, fuse := -1, off := false } by unfold crash; rw [← hn, ← hL, ← hT])
  have n1 : IntKind.i64.wrap ((L.size : Int) + 1) = (L.size : Int) + 1 := by rw [IntKind.wrap_i64]; omega
  have z1 : ((L.size : Int) + 1 == 0) = false := by rw [beq_eq_false_iff_ne]; omega
  rw [HX.out]
  clear hL hn hT h
  have O1 := OwnsM.of (World.ownsRow_made (base := w.heap.size) (e := 5) (size := 1) w #[] 0 (Nat.le_refl _) (by simp) (by simp))
  have H1 := Lib.hid O1
  have HW1 := Lib.hid ((Below.refl w.heap.size w).alloc (Nat.le_refl _) (.cells #[] 5))
  clear O1
  obtain ⟨q, hq0⟩ : ∃ q, q = k.tmod ((L.size : Int) + 1) := ⟨_, rfl⟩
  have hcase : (q < 0 ∧ q + ((L.size : Int) + 1) = (n : Int)) ∨ (¬ q < 0 ∧ q = (n : Int)) := by
    by_cases ht : k.tmod ((L.size : Int) + 1) < 0
    · left
      rw [hq0, hns]
      exact ⟨ht, tmod_neg (by omega) ht⟩
    · right
      rw [hq0, hns]
      exact ⟨ht, tmod_pos (by omega) ht⟩
  have hq1 := hq0.symm
  clear hns hq0
  rcases hcase with ⟨ht, hq⟩ | ⟨ht, hq⟩
  case' inl =>
    have t0 : decide (q < 0) = true := decide_eq_true ht
    have n2 : IntKind.i64.wrap (q + ((L.size : Int) + 1)) = (n : Int) := by rw [hq, IntKind.wrap_i64]; omega
    have n3 : IntKind.i64.wrap q = q := by rw [IntKind.wrap_i64]; omega
    clear hq ht
    go_enter Tryd.func28, Tryd.ntmps28
    go_wp2_with fail
  case' inr =>
    have t0 : decide ((n : Int) < 0) = false := decide_eq_false (by omega)
    have n3 : IntKind.i64.wrap (n : Int) = (n : Int) := by rw [IntKind.wrap_i64]; omega
    rw [hq] at hq1
    clear hq ht
    go_enter Tryd.func28, Tryd.ntmps28
    go_wp2_with fail
  all_goals
    go_loopg [8, 9] n (fun gh s8 s9 wx => ∃ i : Nat, i + gh = n ∧ s9 = .int .i64 (i : Int) ∧ (∃ g c : Nat, s8 = .slice (some ⟨g, 0, none⟩) i c) ∧ OwnsM wx w.heap.size 5 s8 i (natVals .u8 (T.take i)) ∧ Below w.heap.size w wx)
    case atStart => exact ⟨0, by omega, by go_num, ⟨_, _, rfl⟩, H1.out, HW1.out⟩
    case round =>
      obtain ⟨i, hi, rfl, ⟨g8, cap8, rfl⟩, hown, hb⟩ := hrel
      have HO := Lib.hid hown
      have HB := Lib.hid hb
      have hr := H.out.below hb
      have d0 := Lies.cell (i := 0) hr rfl
      have d1 := Lies.cell (i := 1) hr rfl
      rw [← HLL.out] at d1
      have HR := Lib.hid hr
      clear hown hb H1 HW1 hr
      by_cases hin : i < n
      · have t1 : decide ((i : Int) < (n : Int)) = true := decide_eq_true (by omega)
        have t1' : decide (i < n) = true := decide_eq_true hin
        have hiL : i < L.size := by omega
        obtain ⟨c, hc⟩ : ∃ c, c = (L[i]'hiL).toNat := ⟨_, rfl⟩
        have hx : ((L[i]'hiL).toNat : Int) = (c : Int) := by rw [hc]
        have hc256 : c < 256 := by rw [hc]; exact UInt8.toNat_lt _
        have hTi0 := HTA.out i c hin (by rw [hc]; exact nats_at L i hiL)
        by_cases hm0 : mask.size = 0
        · have t2 : decide ((0 : Int) < (mask.size : Int)) = false := decide_eq_false (by omega)
          have t2' : decide (0 < mask.size) = false := decide_eq_false (by omega)
          obtain ⟨x, hxx⟩ : ∃ x, x = c := ⟨_, rfl⟩
          have hTi : T[i]? = some x := by rw [hTi0, hxx]; unfold left; rw [if_pos hm0]
          rw [← hxx] at hx hc256
          clear hTi0 hxx hc hm0
          have k5 : IntKind.u8.wrap (x : Int) = (x : Int) := by rw [IntKind.wrap_u8]; omega
          have HT := Lib.hid (show natVals .u8 (T.take i) ++ [.int .u8 (x : Int)] = natVals .u8 (T.take (i + 1)) by
            rw [take_more hTi, natVals_append]
            rfl)
          have HO2 := Lib.hid (HO.out.alloc (.cells #[.int .u8 (x : Int)] 5))
          have hs2 := HB.out.size
          have HB2 := Lib.hid (HB.out.alloc hs2 (.cells #[.int .u8 (x : Int)] 5))
          clear hTi HO
          go_wp2_with ((at_builtin; refine wpList_append_m rfl _ _ 46 rfl w.heap.size 5 ib (.int .u8 0) 1 Tryd.underlying46 hib hb0 hb1 hb2 rfl _ _ _ rfl HO2.out ⟨_, 0, none⟩ 1 1 [.int .u8 (x : Int)] rfl rfl (one_put _ _ _ _ (by simp)) (fun u hu => by simp at hu; subst hu; rfl) (by unfold maxLen; omega) (by omega) (by simp; omega) ?_; intro v2 w2 hown2 hgrow2))
          have hB2 : Below w.heap.size w w2 := HB2.out.grown hgrow2 (by simp; omega) (fun q hq => (HO2.out.lt q hq).1)
          rw [HT.out] at hown2
          obtain ⟨g9, c9, he9, _⟩ := hown2.open (by omega)
          go_roundg (n - (i + 1))
          case measure => omega
          case rel => exact ⟨i + 1, by omega, by go_num, ⟨g9, c9, he9⟩, hown2, hB2⟩
        · have t2 : decide ((0 : Int) < (mask.size : Int)) = true := decide_eq_true (by omega)
          have t2' : decide (0 < mask.size) = true := decide_eq_true (by omega)
          obtain ⟨p, hp⟩ : ∃ p, p = i % mask.size := ⟨_, rfl⟩
          have hpm : p < mask.size := by rw [hp]; exact Nat.mod_lt _ (by omega)
          have z2 : ((mask.size : Int) == 0) = false := by rw [beq_eq_false_iff_ne]; omega
          have kx : (i : Int).tmod (mask.size : Int) = (p : Int) := by rw [hp]; rfl
          have kx2 : (i : Int) % (mask.size : Int) = (p : Int) := by rw [hp]; rfl
          obtain ⟨y, hy⟩ : ∃ y, y = (mask[p]'hpm).toNat := ⟨_, rfl⟩
          have hyx : ((mask[p]'hpm).toNat : Int) = (y : Int) := by rw [hy]
          have hy256 : y < 256 := by rw [hy]; exact UInt8.toNat_lt _
          have hleft : left mask i c = if y % 2 = 0 then 0 else c := by
            unfold left
            rw [if_neg hm0, ← hp, nats_at mask p hpm, ← hy]
            rfl
          rw [hleft] at hTi0
          by_cases hy2 : y % 2 = 0
          · have t3 : ((y : Int) % 2 == 0) = true := by rw [beq_iff_eq]; omega
            have t3' : (((y % 2 : Nat) : Int) == 0) = true := by rw [beq_iff_eq]; omega
            obtain ⟨x, hxx⟩ : ∃ x, x = 0 := ⟨_, rfl⟩
            have hTi : T[i]? = some x := by rw [hTi0, hxx, if_pos hy2]
            clear hTi0 hc hm0 hleft hp hy hy2
            subst hxx
            have k5 : IntKind.u8.wrap (0 : Int) = (0 : Int) := by rw [IntKind.wrap_u8]; omega
            have HT := Lib.hid (show natVals .u8 (T.take i) ++ [.int .u8 (0 : Int)] = natVals .u8 (T.take (i + 1)) by
              rw [take_more hTi, natVals_append]
              rfl)
            have HO2 := Lib.hid (HO.out.alloc (.cells #[.int .u8 (0 : Int)] 5))
            have hs2 := HB.out.size
            have HB2 := Lib.hid (HB.out.alloc hs2 (.cells #[.int .u8 (0 : Int)] 5))
            clear hTi HO
            go_wp2_with ((at_builtin; refine wpList_append_m rfl _ _ 46 rfl w.heap.size 5 ib (.int .u8 0) 1 Tryd.underlying46 hib hb0 hb1 hb2 rfl _ _ _ rfl HO2.out ⟨_, 0, none⟩ 1 1 [.int .u8 (0 : Int)] rfl rfl (one_put _ _ _ _ (by simp)) (fun u hu => by simp at hu; subst hu; rfl) (by unfold maxLen; omega) (by omega) (by simp; omega) ?_; intro v2 w2 hown2 hgrow2))
            have hB2 : Below w.heap.size w w2 := HB2.out.grown hgrow2 (by simp; omega) (fun q hq => (HO2.out.lt q hq).1)
            rw [HT.out] at hown2
            obtain ⟨g9, c9, he9, _⟩ := hown2.open (by omega)
            go_roundg (n - (i + 1))
            case measure => omega
            case rel => exact ⟨i + 1, by omega, by go_num, ⟨g9, c9, he9⟩, hown2, hB2⟩
          · have t3 : ((y : Int) % 2 == 0) = false := by rw [beq_eq_false_iff_ne]; omega
            have t3' : (((y % 2 : Nat) : Int) == 0) = false := by rw [beq_eq_false_iff_ne]; omega
            obtain ⟨x, hxx⟩ : ∃ x, x = c := ⟨_, rfl⟩
            have hTi : T[i]? = some x := by rw [hTi0, hxx, if_neg hy2]
            rw [← hxx] at hx hc256
            clear hTi0 hxx hc hm0 hleft hp hy hy2
            have k5 : IntKind.u8.wrap (x : Int) = (x : Int) := by rw [IntKind.wrap_u8]; omega
            have HT := Lib.hid (show natVals .u8 (T.take i) ++ [.int .u8 (x : Int)] = natVals .u8 (T.take (i + 1)) by
              rw [take_more hTi, natVals_append]
              rfl)
            have HO2 := Lib.hid (HO.out.alloc (.cells #[.int .u8 (x : Int)] 5))
            have hs2 := HB.out.size
            have HB2 := Lib.hid (HB.out.alloc hs2 (.cells #[.int .u8 (x : Int)] 5))
            clear hTi HO
            go_wp2_with ((at_builtin; refine wpList_append_m rfl _ _ 46 rfl w.heap.size 5 ib (.int .u8 0) 1 Tryd.underlying46 hib hb0 hb1 hb2 rfl _ _ _ rfl HO2.out ⟨_, 0, none⟩ 1 1 [.int .u8 (x : Int)] rfl rfl (one_put _ _ _ _ (by simp)) (fun u hu => by simp at hu; subst hu; rfl) (by unfold maxLen; omega) (by omega) (by simp; omega) ?_; intro v2 w2 hown2 hgrow2))
            have hB2 : Below w.heap.size w w2 := HB2.out.grown hgrow2 (by simp; omega) (fun q hq => (HO2.out.lt q hq).1)
            rw [HT.out] at hown2
            obtain ⟨g9, c9, he9, _⟩ := hown2.open (by omega)
            go_roundg (n - (i + 1))
            case measure => omega
            case rel => exact ⟨i + 1, by omega, by go_num, ⟨g9, c9, he9⟩, hown2, hB2⟩
      · have t1 : decide ((i : Int) < (n : Int)) = false := decide_eq_false (by omega)
        have t1' : decide (i < n) = false := decide_eq_false hin
        obtain rfl : i = n := by omega
        have hcv0 := fun (W : World) (hW : W.heap = wr.heap) => text_row W g8 cap8 T HTT.out (fun j hj => by
          have hcell := HO.out.cells rfl j
          rw [cell_heap hW]
          rw [List.take_of_length_le (by rw [HTL.out]; exact Nat.le_refl _)] at hcell
          have hj2 : (natVals .u8 T)[j]? = some ((natVals .u8 T)[j]'(by rw [natVals_len]; exact hj)) := List.getElem?_eq_getElem _
          rw [hj2]
          have := hcell _ hj2
          rwa [show (⟨g8, 0, none⟩ : Addr).add j = ⟨g8, j, none⟩ by unfold Addr.add; split <;> simp_all] at this)
        rw [HTL.out] at hcv0
        have hcv := hcv0 wr rfl
        have hcv2 := hcv0 wr.drew rfl
        clear hcv0
        have kb : d.done.size + (txt T).size ≤ 9223372036854775807 := by rw [txt_len, HTL.out]; omega
        have hbut := Lib.hid (But.of (pb := v) HB.out)
        have f0 := Lies.free HR.out 0
        have f1 := Lies.free HR.out 1
        have f3 := Lies.free HR.out 3
        have f4 := Lies.free HR.out 4
        have d3 := Lies.cell (i := 3) HR.out rfl
        have d4 := Lies.cell (i := 4) HR.out rfl
        clear HO
        go_wp2_with fail
        have g1 := rd_set (d' := { d with done := d.done ++ txt T }) HR.out (i := 0) (x := .string (d.done ++ txt T)) rfl
        have g2 := rd_set (d' := { d with done := d.done ++ txt T, late := ByteArray.empty }) g1 (i := 1) (x := .string ByteArray.empty) rfl
        have g3 := rd_set (d' := { d with done := d.done ++ txt T, late := ByteArray.empty, off := false }) g2 (i := 4) (x := .bool false) rfl
        have HG := Lib.hid (rd_set (d' := { done := d.done ++ txt T, late := ByteArray.empty, room := d.room, fuse := -1, off := false }) g3 (i := 3) (x := .int .i64 (-1)) rfl)
        clear g1 g2 g3
        go_region
        go_end0
        exact ⟨rfl, HG.out, (hbut.out.trans ((((But.set v 0 _ _).trans (But.set v 1 _ _)).trans (But.set v 4 _ _)).trans (But.set v 3 _ _))).drew⟩
end Go.Proofs.YtfdldjhndfohhaaDoor
