/-
  FrameTurned's contract: a frame of which one byte is another one is no frame; nor is one that is cut. The conditions: the program's contracts; the variables' cells.
-/
import Derived.Test.YtjijlfohlmhlkaaDoorFrameLaws
import Derived.Test.YtjijlfohlmhlkaaDoorFrameRow
namespace Go.Proofs.YtjijlfohlmhlkaaDoor
open Go.RowKit FrameMath TextNat

theorem turn_byte (a b : Nat) (ha : a < 256) (hb : b < 256) : bits .xor .u8 (a : Int) (b : Int) = ((a ^^^ b : Nat) : Int) := by
  have hx : a ^^^ b < 2 ^ 8 := Nat.xor_lt_two_pow (by omega) (by omega)
  show IntKind.u8.wrap ((BitVec.ofInt 8 (a : Int) ^^^ BitVec.ofInt 8 (b : Int)).toNat : Int) = _
  have h1 : (BitVec.ofInt 8 (a : Int)).toNat = a := by rw [BitVec.ofInt_natCast, BitVec.toNat_ofNat]; exact Nat.mod_eq_of_lt (by omega)
  have h2 : (BitVec.ofInt 8 (b : Int)).toNat = b := by rw [BitVec.ofInt_natCast, BitVec.toNat_ofNat]; exact Nat.mod_eq_of_lt (by omega)
  rw [BitVec.toNat_xor, h1, h2, IntKind.wrap_u8]
  omega
theorem xor_same {a b : Nat} : a ^^^ b = a ↔ b = 0 := by
  constructor
  · intro h
    have : a ^^^ (a ^^^ b) = a ^^^ a := by rw [h]
    rw [← Nat.xor_assoc, Nat.xor_self, Nat.zero_xor] at this
    exact this
  · intro h
    rw [h, Nat.xor_zero]
theorem below_at {B g : Nat} {a w : World} (h : Below B a w) (hg : B ≤ g) (j : Nat) (v : Value) : Below B a (w.setCell ⟨g, j, none⟩ v) :=
  ⟨h.os, h.tape, h.output, by have := h.size; simpa [World.setCell] using this, fun k hk => (Below.heap_setCell _ _ _ _ (by show k ≠ g; omega)).trans (h.block k hk)⟩
/-- What stands there when a letter is turned, something behind it. -/
theorem openF_turned {p x : List Nat} (hp : p.length ≤ 8192) (bp : Oct p) (bx : Oct x) {i z c : Nat} (hz : (framed p)[i]? = some z) (hc : c < 256) : openF ((framed p).set i c ++ x) 0 = if c = z then some p else none := by
  have hl := framed_len p
  unfold openF
  rw [if_pos (by rw [List.length_append, List.length_set]; omega)]
  show stands ((framed p).set i c ++ x) = _
  split
  · rename_i h
    have : (framed p).set i c = framed p := by
      apply List.ext_getElem?
      intro j
      by_cases hj : j = i
      · rw [hj, List.getElem?_set_self (List.getElem?_eq_some_iff.1 hz).1, hz, h]
      · rw [List.getElem?_set_ne (Ne.symm hj)]
    rw [this]
    exact stands_framed hp bp x
  · rename_i h
    cases hs : stands ((framed p).set i c ++ x) with
    | none => rfl
    | some q =>
      exfalso
      obtain ⟨y, he, hq⟩ := stands_is hs
      have hb : Oct ((framed p).set i c ++ x) := Oct.append (fun b hb => by
        rcases List.mem_or_eq_of_mem_set hb with h | h
        · exact framed_bytes hp bp b h
        · omega) bx
      exact turned hp hq bp (stands_bytes hs hb) hz h he
theorem openF_cut {p : List Nat} (hp : p.length ≤ 8192) (bp : Oct p) {i : Nat} (hi : i < (framed p).length) : openF ((framed p).take i) 0 = none := by
  unfold openF
  split
  · show stands ((framed p).take i) = none
    cases hs : stands ((framed p).take i) with
    | none => rfl
    | some q =>
      exfalso
      obtain ⟨y, he, hq⟩ := stands_is hs
      exact cut_none hp hq bp (stands_bytes hs (fun b hb => framed_bytes hp bp b (List.mem_of_mem_take hb))) hi he
  · rfl
theorem nats_take (s : ByteArray) (n : Nat) : nats (s.extract 0 n) = (nats s).take n := by
  unfold nats
  rw [← List.map_take]
  congr 1
  simp [ByteArray.data_extract]
set_option maxRecDepth 100000 in
set_option maxHeartbeats 4000000 in
theorem turned_true (hS : SealOk) (hO : OpenOk) (s : ByteArray) (k : Int) (c : Nat) (w : World) (hT : Tables w) (hs : s.size ≤ 9223372036854775807) (hk : I64 k) (hc : c < 256) :
    Calls Tryd.prog 5 #[.string s, .int .i64 k, .int .u8 (c : Int)] w fun e w' => e = .returned (.bool true) ∧ Below w.heap.size w w' := by
  have HA := Lib.hid (awake_true hS hO w hT)
  have HT := Lib.hid hT
  replace hS := Lib.hid hS
  replace hO := Lib.hid hO
  clear hT
  go_enter Tryd.func5, Tryd.ntmps5
  go_wp2_with fail
  refine HA.out.mono ?_
  rintro e w0 ⟨rfl, hb⟩
  have HB := Lib.hid hb
  have HT0 := Lib.hid (HT.out.grown hb)
  clear HA hb HT
  go_wp2_with fail
  refine (hS.out s w0 HT0.out hs).mono ?_
  rintro e w1 ⟨h1, hb⟩
  have HT1 := Lib.hid (HT0.out.grown hb)
  replace HB := Lib.hid (HB.out.trans (hb.mono HB.out.size))
  clear hb HT0
  by_cases h3 : 3000 < s.size
  · have t1 : decide ((3000 : Int) < (s.size : Int)) = true := decide_eq_true (by omega)
    have t1' : decide (3000 < s.size) = true := decide_eq_true h3
    by_cases h8 : s.size ≤ 8192
    · rw [if_pos h8] at h1
      subst h1
      clear h8 h3
      go_wp2
      go_ret
      exact ⟨rfl, HB.out⟩
    · rw [if_neg h8] at h1
      obtain ⟨x, rfl, hx⟩ := h1
      obtain ⟨T, y, rfl⟩ := hx.is.iface
      clear h8 h3 hx
      go_wp2
      go_ret
      exact ⟨rfl, HB.out⟩
  · have t1 : decide ((3000 : Int) < (s.size : Int)) = false := decide_eq_false (by omega)
    have t1' : decide (3000 < s.size) = false := decide_eq_false h3
    rw [if_pos (by omega)] at h1
    subst h1
    obtain ⟨p, hp⟩ : ∃ p, p = nats s := ⟨_, rfl⟩
    have HP := Lib.hid (show Oct p by rw [hp]; exact nats_ok s)
    have hpl : p.length ≤ 3000 := by rw [hp, nats_len]; omega
    rw [← hp]
    obtain ⟨S, hS'⟩ : ∃ S, S = txt (framed p) := ⟨_, rfl⟩
    have HSN := Lib.hid (show nats S = framed p by rw [hS']; exact nats_framed (by omega) HP.out)
    have hSz : S.size ≤ 7000 := by rw [hS', txt_framed_size]; omega
    have HSL := Lib.hid (show S.size = (framed p).length by rw [hS', txt_len])
    rw [← hS']
    clear hp hS' h3
    by_cases h0 : k < 0
    · have t2 : decide (k < 0) = true := decide_eq_true h0
      clear h0
      go_wp2
      go_ret
      exact ⟨rfl, HB.out⟩
    have t2 : decide (k < 0) = false := decide_eq_false h0
    obtain ⟨i, rfl⟩ : ∃ i : Nat, k = (i : Int) := ⟨k.toNat, by omega⟩
    by_cases h4 : S.size ≤ i
    · have t3 : decide ((S.size : Int) ≤ (i : Int)) = true := decide_eq_true (by omega)
      have t3' : decide (S.size ≤ i) = true := decide_eq_true h4
      clear h0 h4
      go_wp2
      go_ret
      exact ⟨rfl, HB.out⟩
    have t3 : decide ((S.size : Int) ≤ (i : Int)) = false := decide_eq_false (by omega)
    have t3' : decide (S.size ≤ i) = false := decide_eq_false h4
    have hiS : i < S.size := by omega
    have kb := run_bytes_of_string (P := Tryd.prog) w1 9 36 5 S Tryd.underlying9 Tryd.underlying36 Tryd.underlying5
    have h5 := OwnsM.ofBytes w1 w1.heap.size 5 S (Nat.le_refl _) (by unfold maxLen; omega)
    obtain ⟨cap3, hcap3⟩ : ∃ c, c = grownCap w1 S.size 0 5 := ⟨_, rfl⟩
    rw [← hcap3] at h5 kb
    have e5 : (S.data.toList.map fun b => Value.int .u8 (b.toNat : Int)) = byteVals (framed p) := by
      rw [← HSN.out]
      simp [byteVals, nats, Function.comp_def]
    rw [e5] at h5
    have hrow : Row8 (w1.alloc (.cells (bytesRow S cap3) 5 ((bytesRow S cap3).size, (bytesRow S cap3).size + 1))) w1.heap.size (framed p) := by
      rw [HSL.out] at h5
      exact Row8.of (cap := cap3) h5
    obtain ⟨z, hz⟩ : ∃ z, (framed p)[i]? = some z := ⟨_, List.getElem?_eq_getElem (by rw [← HSL.out]; exact hiS)⟩
    have hz256 : z < 256 := framed_bytes (by omega) HP.out z (List.mem_of_getElem? hz)
    have cz := hrow.cell hz
    have fz := hrow.free (j := i) (by rw [← HSL.out]; exact hiS)
    obtain ⟨d, hd⟩ : ∃ d, d = z ^^^ c := ⟨_, rfl⟩
    have hd256 : d < 256 := by rw [hd]; exact Nat.xor_lt_two_pow (n := 8) hz256 hc
    have kx : bits .xor .u8 (z : Int) (c : Int) = (d : Int) := by rw [hd]; exact turn_byte z c hz256 hc
    have hset : ∀ b ∈ (framed p).set i d, b < 256 := by
      intro b hb
      rcases List.mem_or_eq_of_mem_set hb with h | h
      · exact framed_bytes (by omega) HP.out b h
      · omega
    have kt := Row8.text (show Row8 ((w1.alloc (.cells (bytesRow S cap3) 5 ((bytesRow S cap3).size, (bytesRow S cap3).size + 1))).setCell ⟨w1.heap.size, i, none⟩ (.int .u8 (d : Int))).drew w1.heap.size ((framed p).set i d) from hrow.set i d) hset cap3
    rw [List.length_set, ← HSL.out] at kt
    have HB2 := Lib.hid (show Below w1.heap.size w1 ((w1.alloc (.cells (bytesRow S cap3) 5 ((bytesRow S cap3).size, (bytesRow S cap3).size + 1))).setCell ⟨w1.heap.size, i, none⟩ (.int .u8 (d : Int))).drew from (below_at ((Below.refl w1.heap.size w1).alloc (Nat.le_refl _) _) (Nat.le_refl _) i _).drew)
    have HZ := Lib.hid hz
    have HDZ := Lib.hid (show d = z ↔ c = 0 by rw [hd]; exact xor_same)
    have kl : (txt ((framed p).set i d)).size + (⟨#[64, 65, 1]⟩ : ByteArray).size ≤ 9223372036854775807 := by
      rw [txt_len, List.length_set, ← HSL.out]
      show S.size + 3 ≤ _
      omega
    have kl2 : (txt ((framed p).set i d)).size + 3 ≤ 9223372036854775807 := kl
    clear h5 e5 hcap3 h0 h4 hrow hz hd hset
    go_wp2_with fail
    have hN : nats (txt ((framed p).set i d) ++ ⟨#[64, 65, 1]⟩) = (framed p).set i d ++ [64, 65, 1] := by
      rw [nats_append, nats_txt _ (fun b hb => by
        rcases List.mem_or_eq_of_mem_set hb with h | h
        · exact framed_bytes (by omega) HP.out b h
        · omega)]
      rfl
    have hV := openF_turned (x := [64, 65, 1]) (by omega) HP.out (fun b hb => by simp at hb; omega) HZ.out hd256
    rw [← hN] at hV
    have hUz : (txt ((framed p).set i d) ++ (⟨#[64, 65, 1]⟩ : ByteArray)).size ≤ 100000 := by
      rw [ByteArray.size_append, txt_len, List.length_set, ← HSL.out]
      show S.size + 3 ≤ _
      omega
    have hC := openF_cut (by omega) HP.out (i := i) (by rw [← HSL.out]; exact hiS)
    rw [← HSN.out, ← nats_take] at hC
    have hCz : (S.extract 0 i).size ≤ 100000 := by rw [ByteArray.size_extract]; omega
    have HV := Lib.hid hV
    have HC := Lib.hid hC
    have HT2 := Lib.hid (HT1.out.grown HB2.out)
    replace HB := Lib.hid (HB.out.trans (HB2.out.mono HB.out.size))
    generalize ((w1.alloc (.cells (bytesRow S cap3) 5 ((bytesRow S cap3).size, (bytesRow S cap3).size + 1))).setCell ⟨w1.heap.size, i, none⟩ (.int .u8 (d : Int))).drew = w3 at HT2 HB HB2 ⊢
    generalize txt ((framed p).set i d) ++ (⟨#[64, 65, 1]⟩ : ByteArray) = U at HV hUz ⊢
    clear hN hV hC kt kb kl kl2 cz fz kx
    refine (hO.out U 0 w3 HT2.out hUz (by decide)).mono ?_
    rintro e w4 ⟨h4, hb⟩
    replace HB := Lib.hid (HB.out.trans (hb.mono HB.out.size))
    have HT3 := Lib.hid (HT2.out.grown hb)
    clear hb
    by_cases hc0 : c = 0
    · have h6 := h4.some (HV.out.trans (if_pos (HDZ.out.2 hc0)))
      subst h6
      clear h4
      have u1 : ((c : Int) == 0) = true := by rw [beq_iff_eq]; omega
      have hic : i ≤ S.size := by omega
      clear hc0
      go_wp2_with fail
      refine (hO.out _ 0 w4 HT3.out hCz (by decide)).mono ?_
      rintro e w5 ⟨h5, hb⟩
      obtain ⟨x, h7, hx⟩ := h5.none HC.out
      obtain ⟨T, y, rfl⟩ := hx.is.iface
      subst h7
      replace HB := Lib.hid (HB.out.trans (hb.mono HB.out.size))
      clear h5 hx hb
      go_wp2
      go_ret
      exact ⟨rfl, HB.out⟩
    · obtain ⟨x, h6, hx⟩ := h4.none (HV.out.trans (if_neg (fun h => hc0 (HDZ.out.1 h))))
      obtain ⟨T, y, rfl⟩ := hx.is.iface
      subst h6
      clear h4 hx
      have u1 : ((c : Int) == 0) = false := by rw [beq_eq_false_iff_ne]; omega
      have hic : i ≤ S.size := by omega
      clear hc0
      go_wp2_with fail
      refine (hO.out _ 0 w4 HT3.out hCz (by decide)).mono ?_
      rintro e w5 ⟨h5, hb⟩
      obtain ⟨x, h7, hx⟩ := h5.none HC.out
      obtain ⟨T2, y2, rfl⟩ := hx.is.iface
      subst h7
      replace HB := Lib.hid (HB.out.trans (hb.mono HB.out.size))
      clear h5 hx hb
      go_wp2
      go_ret
      exact ⟨rfl, HB.out⟩
end Go.Proofs.YtjijlfohlmhlkaaDoor
