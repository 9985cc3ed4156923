/-
  The contract of the law CrcTells: over any bytes, any place and any byte it answers true, and old memory is as it was. The conditions: the slice's cells are told; the two tables hold what the program's text lays there.
-/
import Derived.Test.YtldimmpdjcgbeaaDoorCrcAwake
import Derived.Test.YtldimmpdjcgbeaaDoorOwnBytes
namespace Go.Proofs.YtldimmpdjcgbeaaDoor
open Go.RowKit CrcMath

theorem infoB : (Tryd.prog.info? 5).map (fun i => (i.zero, i.size, i.bytes)) = some (some (.int .u8 0), 1, 1) := by kernel_rfl

theorem sum_turned (zs : List Nat) (i z k : Nat) (hi : zs[i]? = some z) (hz : z < 256) (hk : k < 256) : sum (zs.set i (z ^^^ k)) = sum zs ↔ k = 0 := by
  have hlt : i < zs.length := (List.getElem?_eq_some_iff.1 hi).1
  have hzi : zs[i] = z := (List.getElem?_eq_some_iff.1 hi).2
  have e1 : zs = zs.take i ++ z :: zs.drop (i + 1) := by
    rw [← hzi, ← List.drop_eq_getElem_cons hlt, List.take_append_drop]
  have e2 : zs.set i (z ^^^ k) = zs.take i ++ (z ^^^ k) :: zs.drop (i + 1) := List.set_eq_take_append_cons_drop.trans (if_pos hlt)
  have hx : z ^^^ k < 256 := Nat.xor_lt_two_pow (n := 8) hz hk
  have h := sum_tells (zs.take i) (zs.drop (i + 1)) (z ^^^ k) z hx hz
  rw [← e2, ← e1] at h
  rw [h]
  constructor
  · intro h1
    have h2 : z ^^^ k = z ^^^ 0 := by rw [h1, Nat.xor_zero]
    exact xor_left.1 h2
  · rintro rfl
    exact Nat.xor_zero z

theorem place_eq {G b off : Nat} (h : some (⟨G, 0, none⟩ : Addr) = some ⟨b, off, none⟩) : b = G ∧ off = 0 := by
  simp only [Option.some.injEq, Addr.mk.injEq] at h
  exact ⟨h.1.symm, h.2.1.symm⟩
theorem Bytes.other {w : World} {pp : Option Addr} {zs : List Nat} {B : Nat} (h : Bytes w pp zs) (hlt : ∀ b off, pp = some ⟨b, off, none⟩ → b ≠ B) (j : Nat) (u : Value) : Bytes (w.setCell ⟨B, j, none⟩ u) pp zs := fun i z hz => by
  obtain ⟨h1, b, off, h2, h3⟩ := h i z hz
  exact ⟨h1, b, off, h2, (World.cell?_setCell_other _ ⟨B, j, none⟩ ⟨b, off + i, none⟩ _ (by simp; intro hb; exact absurd hb.symm (hlt b off h2))).trans h3⟩

theorem tells_out (zs : List Nat) (pp : Option Addr) (cap k : Nat) (at' : Int) (w : World) (hm : zs.length ≤ maxLen) (ha : -9223372036854775808 ≤ at' ∧ at' ≤ 9223372036854775807) (hout : 100000 < zs.length ∨ at' < 0 ∨ (zs.length : Int) ≤ at') (hT : Tables w) :
    Calls Tryd.prog 5 #[.slice pp zs.length cap, .int .i64 at', .int .u8 (k : Int)] w fun e w' => e = .returned (.bool true) ∧ Below w.heap.size w w' := by
  have HA := Lib.hid (awake_true _ hT)
  unfold maxLen at hm
  clear hT
  go_enter Tryd.func5, Tryd.ntmps5
  go_wp2_with fail
  refine HA.out.mono ?_
  rintro e w1 ⟨rfl, hb1⟩
  have HB := Lib.hid hb1
  clear hb1 HA
  by_cases h1 : 100000 < zs.length
  · have t1 : decide ((100000 : Int) < (zs.length : Int)) = true := by simp; omega
    go_wp2
    go_ret
    exact ⟨rfl, HB.out⟩
  · have t1 : decide ((100000 : Int) < (zs.length : Int)) = false := by simp; omega
    by_cases h2 : at' < 0
    · have t2 : decide (at' < 0) = true := by simpa using h2
      go_wp2
      go_ret
      exact ⟨rfl, HB.out⟩
    · have t2 : decide (at' < 0) = false := by simpa using h2
      have t3 : decide ((zs.length : Int) ≤ at') = true := by simp; omega
      go_wp2
      go_ret
      exact ⟨rfl, HB.out⟩

set_option maxHeartbeats 8000000 in
theorem tells_in (zs : List Nat) (pp : Option Addr) (cap k i : Nat) (w : World) (hm : zs.length ≤ 100000) (hi : i < zs.length) (hk : k < 256) (hz : Bytes w pp zs) (hT : Tables w) :
    Calls Tryd.prog 5 #[.slice pp zs.length cap, .int .i64 (i : Int), .int .u8 (k : Int)] w fun e w' => e = .returned (.bool true) ∧ Below w.heap.size w w' := by
  obtain ⟨ti, hti, hz0, hz1, hz2⟩ := info_parts infoB
  obtain ⟨hz8, b, off, rfl, c0⟩ := hz i _ (List.getElem?_eq_getElem hi)
  obtain ⟨z, hzd⟩ : ∃ z, z = zs[i] := ⟨_, rfl⟩
  rw [← hzd] at hz8 c0
  have hzi : zs[i]? = some z := by rw [hzd]; exact List.getElem?_eq_getElem hi
  have hbl : b < w.heap.size := World.block_lt_of_cell? w _ c0
  have HA := Lib.hid (awake_true _ hT)
  have HZ := Lib.hid hz
  have HT := Lib.hid hT
  have HI := Lib.hid hzi
  clear hz hT hzi c0 hzd
  go_enter Tryd.func5, Tryd.ntmps5
  go_wp2_with fail
  refine HA.out.mono ?_
  rintro e w1 ⟨rfl, hb1⟩
  have HB := Lib.hid hb1
  have hs := hb1.size
  have HZ1 := Lib.hid (HZ.out.grown hb1)
  have H0 := Lib.hid (World.ownsRow_made (base := w.heap.size) (e := 5) (size := 1) w1 #[] 0 hb1.size (by simp) (by simp))
  have HC := Lib.hid ((HZ1.out.grown ((Below.refl _ w1).alloc (Nat.le_refl _) (.cells #[] 5))).news)
  have HB2 := Lib.hid (hb1.alloc hb1.size (.cells #[] 5))
  clear hb1 HA
  have t1 : decide ((100000 : Int) < (zs.length : Int)) = false := by simp; omega
  have t2 : decide ((i : Int) < 0) = false := by simp
  have t3 : decide (zs.length ≤ i) = false := by simp; omega
  obtain ⟨z', hz'⟩ : ∃ z', z' = z ^^^ k := ⟨_, rfl⟩
  have e1 : bits .xor .u8 (z : Int) (k : Int) = (z' : Int) := by rw [hz']; exact u8_xor_nat z k hz8 hk
  have HX := Lib.hid hz'
  clear hz'
  obtain ⟨n, hn⟩ : ∃ n, n = zs.length := ⟨_, rfl⟩
  have HN := Lib.hid hn
  rw [← hn] at t1 t3 hm hi ⊢
  clear hn
  go_wp2_with ((at_builtin; refine wpList_append_own _ rfl _ _ 22 rfl w.heap.size 5 ti (.int .u8 0) 1 1 Tryd.underlying22 hti hz0 hz1 hz2 rfl (by decide) _ _ _ rfl H0.out ⟨b, off, none⟩ n cap (byteVals zs) rfl (by rw [byteVals_len, HN.out, Nat.mul_one]) HC.out (byteVals_one zs) (by unfold maxLen; omega) (by omega) (by simp; omega) ?_; intro v' w3 hown' hgrow hnil; clear hnil; simp only [Nat.zero_add, List.nil_append] at hown'; obtain ⟨G, cap', rfl, hG, hGl, hfr, hbz⟩ := bytes_of_own hown' HN.out (fun j z hz => (HZ1.out j z hz).1) (by omega); obtain ⟨_, g, o, hp, g0⟩ := hbz i z HI.out; obtain ⟨rfl, rfl⟩ := place_eq hp; rw [Nat.zero_add] at g0; have HF := Lib.hid hfr; have HO := Lib.hid hown'; have HG := Lib.hid hgrow; have HY := Lib.hid hbz; have f0 := hfr i; clear hfr hown' hgrow hbz hp))
  have hB3 : Below w.heap.size w w3 := HB2.out.grown HG.out (by simp; omega) (fun q hq => (H0.out.lt q hq).1)
  obtain ⟨V, hV⟩ : ∃ V, V = w3.setCell ⟨g, i, none⟩ (.int .u8 (z' : Int)) := ⟨_, rfl⟩
  have hBV : Below w.heap.size w V := by rw [hV]; exact hB3.setCell hG _
  have hOV := (HO.out.stored i (.int .u8 (z' : Int))).1
  rw [byteVals_set, ← hV] at hOV
  have hZ' : ∀ j y : Nat, (zs.set i z')[j]? = some y → y < 256 := by
    intro j y hj
    rw [List.getElem?_set] at hj
    split at hj
    · split at hj
      · rw [← Option.some.inj hj, HX.out]; exact Nat.xor_lt_two_pow (n := 8) hz8 hk
      · cases hj
    · exact (HZ1.out j y hj).1
  obtain ⟨g', c', hp, _, _, _, hbV⟩ := bytes_of_own hOV (by rw [List.length_set]; exact HN.out) hZ' (by omega)
  simp only [Value.slice.injEq] at hp
  rw [(place_eq hp.1).1] at hbV
  have hbZ := (HZ.out.grown hBV)
  have hS1 := sum_walk (zs.set i z') (some ⟨g, 0, none⟩) cap' V (by rw [List.length_set, ← HN.out]; omega) hbV (HT.out.grown hBV)
  rw [List.length_set, ← HN.out] at hS1
  have hS2 := fun m => sum_walk zs (some ⟨b, off, none⟩) cap (V.drewN m) (by rw [← HN.out]; omega) hbZ ((HT.out.grown hBV).drewN m)
  rw [← HN.out] at hS2
  have hT := sum_turned zs i z k HI.out hz8 hk
  rw [← HX.out] at hT
  rw [← hV]
  obtain ⟨X, hXd⟩ : ∃ X, X = sum (zs.set i z') := ⟨_, rfl⟩
  obtain ⟨Y, hYd⟩ : ∃ Y, Y = sum zs := ⟨_, rfl⟩
  rw [← hXd] at hS1 hT
  rw [← hYd] at hS2 hT
  refine hS1.mono ?_
  rintro e w5 ⟨rfl, m, rfl⟩
  have HS2 := Lib.hid hS2
  have HBV := Lib.hid hBV
  by_cases hk0 : k = 0
  · have hXY := hT.2 hk0
    have n1 : ((X : Int) == (Y : Int)) = true := by simp [hXY]
    have n2 : ((k : Int) == 0) = true := by simp [hk0]
    clear hS1 hS2 hT hXd hYd hV hBV hOV hbV hbZ hp hk0 hXY hZ' hB3
    go_wp2_with (go_at_call 8; refine (HS2.out _).mono ?_; rintro e w6 ⟨rfl, m2, rfl⟩)
    go_ret
    exact ⟨rfl, ⟨HBV.out.os, HBV.out.tape, HBV.out.output, HBV.out.size, HBV.out.block⟩⟩
  · have hXY : ¬ X = Y := fun h => hk0 (hT.1 h)
    have n1 : ((X : Int) == (Y : Int)) = false := by simp; omega
    have n2 : ((k : Int) == 0) = false := by simp; omega
    clear hS1 hS2 hT hXd hYd hV hBV hOV hbV hbZ hp hk0 hXY hZ' hB3
    go_wp2_with (go_at_call 8; refine (HS2.out _).mono ?_; rintro e w6 ⟨rfl, m2, rfl⟩)
    go_ret
    exact ⟨rfl, ⟨HBV.out.os, HBV.out.tape, HBV.out.output, HBV.out.size, HBV.out.block⟩⟩
end Go.Proofs.YtldimmpdjcgbeaaDoor
