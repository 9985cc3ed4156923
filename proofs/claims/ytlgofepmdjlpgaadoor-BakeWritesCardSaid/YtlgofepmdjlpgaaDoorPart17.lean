/-
  Texts of one claim, merged.
  BakeRefNum: The document's own number of chapter 14: what an attribute's value comes to. The condition: a text of at most 20,000 bytes.
  Lies: A row of cells that lies in a block: what its cells are, and that it stays. No program is run here.
-/
import Derived.Test.YtlgofepmdjlpgaaDoorPart11
import Derived.Test.YtlgofepmdjlpgaaDoorPart03
namespace Go.Proofs.YtlgofepmdjlpgaaDoor
open Go.RowKit TextNat BakeMath

set_option maxRecDepth 100000 in
set_option maxHeartbeats 8000000 in
theorem refNumber14 (s : ByteArray) (w : World) (hs : s.size ≤ 20000) :
    Calls Tryd.prog 28 #[.string s] w fun e w' => e = .returned (.int .i64 (numberF (nats s))) ∧ Below w.heap.size w w' := by
  have HB := Lib.hid (Below.refl w.heap.size w)
  by_cases h0 : s.size = 0
  · have hs0 : s = ⟨#[]⟩ := by
      rw [← txt_nats s, show nats s = [] from List.length_eq_zero_iff.1 (by rw [nats_len, h0])]
      rfl
    subst hs0
    clear h0 hs
    go_enter Tryd.func28, Tryd.ntmps28
    go_wp2
    go_ret
    exact ⟨rfl, HB.out⟩
  have hlt0 : 0 < s.size := by omega
  have t0 : decide ((0 : Int) < (s.size : Int)) = true := decide_eq_true (by omega)
  have t0' : decide (0 < s.size) = true := decide_eq_true hlt0
  obtain ⟨x, hxd⟩ : ∃ x, x = (s[0]'hlt0).toNat := ⟨_, rfl⟩
  have hx0 : ((s[0]'hlt0).toNat : Int) = (x : Int) := by rw [hxd]
  have hh : (nats s).head? = some x := by rw [List.head?_eq_getElem?, hxd]; exact nats_at s 0 hlt0
  by_cases h45 : x = 45
  · have tx : ((x : Int) == 45) = true := by rw [beq_iff_eq]; omega
    obtain ⟨D, hD⟩ : ∃ D, D = s.extract 1 s.size := ⟨_, rfl⟩
    have hDn : nats D = (nats s).tail := by rw [hD, drop_txt, nats_txt _ (fun b hb => nats_lt s b (List.mem_of_mem_drop hb)), List.drop_one]
    have HF := Lib.hid (number_of (l := nats s) (d := nats D) (below := true) (by rw [hh, h45]; rfl) hDn)
    have hDs : D.size = s.size - 1 := by rw [hD, ByteArray.size_extract]; omega
    have hx1 : s.extract 1 s.size = D := hD.symm
    have c1 : (1 : Int) ≤ (s.size : Int) := by omega
    clear hxd hh h45 hDn hD
    by_cases hD0 : D.size = 0
    · have hDe : D = ⟨#[]⟩ := by
        rw [← txt_nats D, show nats D = [] from List.length_eq_zero_iff.1 (by rw [nats_len, hD0])]
        rfl
      have HN := Lib.hid (show numberF (nats s) = -1 by rw [HF.out, if_pos (.inl (by rw [hDe]; rfl))])
      have td : ((D.size : Int) == 0) = true := by rw [beq_iff_eq]; omega
      clear hDe
      go_enter Tryd.func28, Tryd.ntmps28
      go_wp2
      go_ret
      exact ⟨by rw [HN.out]; rfl, HB.out⟩
    have td : ((D.size : Int) == 0) = false := by rw [beq_eq_false_iff_ne]; omega
    have HDe := Lib.hid (show nats D ≠ [] from fun h => hD0 (by rw [← nats_len, h]; rfl))
    have hDl : D.size ≤ 20000 := by omega
    clear hDs hD0
    go_enter Tryd.func28, Tryd.ntmps28
    go_wp2
    go_loopg [4, 5] D.size (fun gh s4 s5 wx => ∃ i v : Nat, i + gh = D.size ∧ s5 = .int .i64 (i : Int) ∧ s4 = .int .i64 (v : Int) ∧ Hid (v = ((nats D).take i).foldl cap 0) ∧ Hid (((nats D).take i).all digit = true) ∧ wx = w)
    case atStart => exact ⟨0, 0, by omega, by go_num, by go_num, Lib.hid rfl, Lib.hid rfl, rfl⟩
    case round =>
      obtain ⟨i, v, hi, rfl, rfl, hv, ha, rfl⟩ := hrel
      have hvb := (cap_val _ ha.out).2
      rw [← hv.out] at hvb
      by_cases hlt : i < D.size
      · have t1 : decide ((i : Int) < (D.size : Int)) = true := decide_eq_true (by omega)
        have t1' : decide (i < D.size) = true := decide_eq_true hlt
        obtain ⟨z, hz⟩ : ∃ z, z = (D[i]'hlt).toNat := ⟨_, rfl⟩
        have hx : ((D[i]'hlt).toNat : Int) = (z : Int) := by rw [hz]
        have hzi : (nats D)[i]? = some z := by rw [hz]; exact nats_at D i hlt
        by_cases hd : digit z = true
        · have hd2 : 48 ≤ z ∧ z ≤ 57 := by
            unfold digit at hd
            simp only [Bool.and_eq_true, decide_eq_true_eq] at hd
            exact hd
          have t2 : decide ((z : Int) < 48) = false := decide_eq_false (by omega)
          have t3 : decide ((57 : Int) < (z : Int)) = false := decide_eq_false (by omega)
          have HA := Lib.hid (show ((nats D).take (i + 1)).all digit = true by
            rw [List.take_add_one, hzi, List.all_append, ha.out]
            simp [hd])
          have hst : ((nats D).take (i + 1)).foldl cap 0 = cap v z := by
            rw [List.take_add_one, hzi, List.foldl_append, ← hv.out]
            rfl
          by_cases hc : v ≤ 1099511627776
          · have t4 : decide ((v : Int) ≤ 1099511627776) = true := decide_eq_true (by omega)
            obtain ⟨y, hy⟩ : ∃ y, y = 10 * v + (z - 48) := ⟨_, rfl⟩
            have k1 : IntKind.i64.wrap (10 * (v : Int)) = 10 * (v : Int) := by rw [IntKind.wrap_i64]; omega
            have k2 : IntKind.i64.wrap (z : Int) = (z : Int) := by rw [IntKind.wrap_i64]; omega
            have k3 : IntKind.i64.wrap (10 * (v : Int) + (z : Int)) = 10 * (v : Int) + (z : Int) := by rw [IntKind.wrap_i64]; omega
            have k4 : IntKind.i64.wrap (10 * (v : Int) + (z : Int) - 48) = (y : Int) := by rw [IntKind.wrap_i64]; omega
            have k5 : 10 * (v : Int) + (z : Int) - 48 = (y : Int) := by omega
            have hyb : y ≤ 10995116277770 := by omega
            have HV := Lib.hid (show y = ((nats D).take (i + 1)).foldl cap 0 by rw [hst, hy]; unfold cap top; rw [if_pos hc])
            clear hv ha hvb hz hzi hd hd2 hst hc hy
            go_wp2
            go_roundg (D.size - (i + 1))
            case measure => omega
            case rel => exact ⟨i + 1, y, by omega, by go_num, by go_num, HV, HA, rfl⟩
          · have t4 : decide ((v : Int) ≤ 1099511627776) = false := decide_eq_false (by omega)
            have HV := Lib.hid (show v = ((nats D).take (i + 1)).foldl cap 0 by rw [hst]; unfold cap top; rw [if_neg hc])
            clear hv ha hvb hz hzi hd hd2 hst hc
            go_wp2
            go_roundg (D.size - (i + 1))
            case measure => omega
            case rel => exact ⟨i + 1, v, by omega, by go_num, rfl, HV, HA, rfl⟩
        · have HN := Lib.hid (show numberF (nats s) = -1 by
            rw [HF.out, if_pos (.inr (by
              cases h : (nats D).all digit with
              | false => rfl
              | true => exact absurd (List.all_eq_true.1 h z (List.mem_of_getElem? hzi)) hd))])
          have hd2 : z < 48 ∨ 57 < z := by
            unfold digit at hd
            simp only [Bool.and_eq_true, decide_eq_true_eq] at hd
            omega
          by_cases h48 : z < 48
          · have t2 : decide ((z : Int) < 48) = true := decide_eq_true (by omega)
            clear hv ha hvb hz hzi hd hd2 h48
            go_wp2
            go_ret
            exact ⟨by rw [HN.out]; rfl, HB.out⟩
          · have t2 : decide ((z : Int) < 48) = false := decide_eq_false (by omega)
            have t3 : decide ((57 : Int) < (z : Int)) = true := decide_eq_true (by omega)
            clear hv ha hvb hz hzi hd hd2 h48
            go_wp2
            go_ret
            exact ⟨by rw [HN.out]; rfl, HB.out⟩
      · obtain rfl : i = D.size := by omega
        have t1 : decide (D.size < D.size) = false := decide_eq_false (by omega)
        have hall : ((nats D).take D.size) = nats D := List.take_of_length_le (by rw [nats_len]; exact Nat.le_refl _)
        rw [hall] at hv ha
        have HN := Lib.hid (show numberF (nats s) = 0 by
          rw [HF.out, if_neg (by rw [ha.out]; simp; exact HDe.out), ← hv.out]
          rfl)
        clear hall
        clear hv ha hvb
        go_wp2
        go_ret
        exact ⟨by rw [HN.out]; rfl, HB.out⟩
  · have tx : ((x : Int) == 45) = false := by rw [beq_eq_false_iff_ne]; omega
    obtain ⟨D, hD⟩ : ∃ D, D = s := ⟨_, rfl⟩
    have HF := Lib.hid (number_of (l := nats s) (d := nats D) (below := false) (by rw [hh]; symm; rw [beq_eq_false_iff_ne]; exact fun h => h45 (Option.some.inj h)) (by rw [hD]; rfl))
    subst hD
    have td : ((D.size : Int) == 0) = false := by rw [beq_eq_false_iff_ne]; omega
    have HDe := Lib.hid (show nats D ≠ [] from fun h => h0 (by rw [← nats_len, h]; rfl))
    have hDl : D.size ≤ 20000 := hs
    clear hxd hh h45
    go_enter Tryd.func28, Tryd.ntmps28
    go_wp2
    go_loopg [4, 5] D.size (fun gh s4 s5 wx => ∃ i v : Nat, i + gh = D.size ∧ s5 = .int .i64 (i : Int) ∧ s4 = .int .i64 (v : Int) ∧ Hid (v = ((nats D).take i).foldl cap 0) ∧ Hid (((nats D).take i).all digit = true) ∧ wx = w)
    case atStart => exact ⟨0, 0, by omega, by go_num, by go_num, Lib.hid rfl, Lib.hid rfl, rfl⟩
    case round =>
      obtain ⟨i, v, hi, rfl, rfl, hv, ha, rfl⟩ := hrel
      have hvb := (cap_val _ ha.out).2
      rw [← hv.out] at hvb
      by_cases hlt : i < D.size
      · have t1 : decide ((i : Int) < (D.size : Int)) = true := decide_eq_true (by omega)
        have t1' : decide (i < D.size) = true := decide_eq_true hlt
        obtain ⟨z, hz⟩ : ∃ z, z = (D[i]'hlt).toNat := ⟨_, rfl⟩
        have hx : ((D[i]'hlt).toNat : Int) = (z : Int) := by rw [hz]
        have hzi : (nats D)[i]? = some z := by rw [hz]; exact nats_at D i hlt
        by_cases hd : digit z = true
        · have hd2 : 48 ≤ z ∧ z ≤ 57 := by
            unfold digit at hd
            simp only [Bool.and_eq_true, decide_eq_true_eq] at hd
            exact hd
          have t2 : decide ((z : Int) < 48) = false := decide_eq_false (by omega)
          have t3 : decide ((57 : Int) < (z : Int)) = false := decide_eq_false (by omega)
          have HA := Lib.hid (show ((nats D).take (i + 1)).all digit = true by
            rw [List.take_add_one, hzi, List.all_append, ha.out]
            simp [hd])
          have hst : ((nats D).take (i + 1)).foldl cap 0 = cap v z := by
            rw [List.take_add_one, hzi, List.foldl_append, ← hv.out]
            rfl
          by_cases hc : v ≤ 1099511627776
          · have t4 : decide ((v : Int) ≤ 1099511627776) = true := decide_eq_true (by omega)
            obtain ⟨y, hy⟩ : ∃ y, y = 10 * v + (z - 48) := ⟨_, rfl⟩
            have k1 : IntKind.i64.wrap (10 * (v : Int)) = 10 * (v : Int) := by rw [IntKind.wrap_i64]; omega
            have k2 : IntKind.i64.wrap (z : Int) = (z : Int) := by rw [IntKind.wrap_i64]; omega
            have k3 : IntKind.i64.wrap (10 * (v : Int) + (z : Int)) = 10 * (v : Int) + (z : Int) := by rw [IntKind.wrap_i64]; omega
            have k4 : IntKind.i64.wrap (10 * (v : Int) + (z : Int) - 48) = (y : Int) := by rw [IntKind.wrap_i64]; omega
            have k5 : 10 * (v : Int) + (z : Int) - 48 = (y : Int) := by omega
            have hyb : y ≤ 10995116277770 := by omega
            have HV := Lib.hid (show y = ((nats D).take (i + 1)).foldl cap 0 by rw [hst, hy]; unfold cap top; rw [if_pos hc])
            clear hv ha hvb hz hzi hd hd2 hst hc hy
            go_wp2
            go_roundg (D.size - (i + 1))
            case measure => omega
            case rel => exact ⟨i + 1, y, by omega, by go_num, by go_num, HV, HA, rfl⟩
          · have t4 : decide ((v : Int) ≤ 1099511627776) = false := decide_eq_false (by omega)
            have HV := Lib.hid (show v = ((nats D).take (i + 1)).foldl cap 0 by rw [hst]; unfold cap top; rw [if_neg hc])
            clear hv ha hvb hz hzi hd hd2 hst hc
            go_wp2
            go_roundg (D.size - (i + 1))
            case measure => omega
            case rel => exact ⟨i + 1, v, by omega, by go_num, rfl, HV, HA, rfl⟩
        · have HN := Lib.hid (show numberF (nats D) = -1 by
            rw [HF.out, if_pos (.inr (by
              cases h : (nats D).all digit with
              | false => rfl
              | true => exact absurd (List.all_eq_true.1 h z (List.mem_of_getElem? hzi)) hd))])
          have hd2 : z < 48 ∨ 57 < z := by
            unfold digit at hd
            simp only [Bool.and_eq_true, decide_eq_true_eq] at hd
            omega
          by_cases h48 : z < 48
          · have t2 : decide ((z : Int) < 48) = true := decide_eq_true (by omega)
            clear hv ha hvb hz hzi hd hd2 h48
            go_wp2
            go_ret
            exact ⟨by rw [HN.out]; rfl, HB.out⟩
          · have t2 : decide ((z : Int) < 48) = false := decide_eq_false (by omega)
            have t3 : decide ((57 : Int) < (z : Int)) = true := decide_eq_true (by omega)
            clear hv ha hvb hz hzi hd hd2 h48
            go_wp2
            go_ret
            exact ⟨by rw [HN.out]; rfl, HB.out⟩
      · obtain rfl : i = D.size := by omega
        have t1 : decide (D.size < D.size) = false := decide_eq_false (by omega)
        have hall : ((nats D).take D.size) = nats D := List.take_of_length_le (by rw [nats_len]; exact Nat.le_refl _)
        rw [hall] at hv ha
        have HN := Lib.hid (show numberF (nats D) = (((if top < v then top else v) : Nat) : Int) by
          rw [HF.out, if_neg (by rw [ha.out]; simp; exact HDe.out), ← hv.out]
          rfl)
        clear hall
        by_cases hc : 1099511627776 < v
        · have t4 : decide ((1099511627776 : Int) < (v : Int)) = true := decide_eq_true (by omega)
          have HM := Lib.hid (show numberF (nats D) = 1099511627776 by rw [HN.out]; unfold top; rw [if_pos hc]; rfl)
          clear hv ha hvb hc
          go_wp2
          go_ret
          exact ⟨by rw [HM.out]; rfl, HB.out⟩
        · have t4 : decide ((1099511627776 : Int) < (v : Int)) = false := decide_eq_false (by omega)
          have HM := Lib.hid (show numberF (nats D) = (v : Int) by rw [HN.out]; unfold top; rw [if_neg hc])
          clear hv ha hvb hc
          go_wp2
          go_ret
          exact ⟨by rw [HM.out]; rfl, HB.out⟩
end Go.Proofs.YtlgofepmdjlpgaaDoor
namespace Go.Proofs.YtlgofepmdjlpgaaDoor
open Go.RowKit

/-- A row of cells that lies in block b. -/
def Lies (w : World) (b : Nat) (l : List Value) (T : TypeId) : Prop := w.heap[b]? = some (.cells l.toArray T (0, 0))
theorem Lies.lt {w : World} {b : Nat} {l : List Value} {T : TypeId} (h : Lies w b l T) : b < w.heap.size := (Array.getElem?_eq_some_iff.1 h).1
theorem Lies.cell {w : World} {b i : Nat} {l : List Value} {T : TypeId} {v : Value} (h : Lies w b l T) (hv : l[i]? = some v) : w.cell? ⟨b, i, none⟩ = some v := by
  rw [cell_of_row w b i _ T (0, 0) h]
  simp [hv]
theorem Lies.free {w : World} {b : Nat} {l : List Value} {T : TypeId} (h : Lies w b l T) (i : Nat) : w.frozen? ⟨b, i, none⟩ = false := frozen_of_row w b i _ T h
theorem Lies.set {w : World} {b : Nat} {l : List Value} {T : TypeId} (h : Lies w b l T) (i : Nat) (v : Value) : Lies (w.setCell ⟨b, i, none⟩ v) b (l.set i v) T := by
  have := heap_setCell_same (i := i) w b _ T v h
  unfold Lies
  rw [this]
  simp
theorem Lies.but {w w' : World} {b pb : Nat} {l : List Value} {T : TypeId} (h : Lies w b l T) (hb : But pb w w') (hn : b ≠ pb) : Lies w' b l T := (hb.block b h.lt hn).trans h
theorem Lies.below {w w' : World} {b : Nat} {l : List Value} {T : TypeId} (h : Lies w b l T) (hb : Below w.heap.size w w') : Lies w' b l T := (hb.block b h.lt).trans h
theorem Lies.new (w : World) (l : List Value) (T : TypeId) : Lies (w.alloc (.cells l.toArray T)) w.heap.size l T := heap_alloc_new w _
end Go.Proofs.YtlgofepmdjlpgaaDoor
