/-
  Texts of one claim, merged.
  CountOne: strings.Count of one byte. No conditions.
  FrameRow: A row of bytes that []byte(s) made: its cells, a store into it, as a text. No conditions but those typed.
  TokenTurned: TokenTurned's contract. The conditions: the program's contracts; mac's table; what came in lies in memory.
-/
import Derived.Lib.Bytealg
import Derived.Lib.Walk
import Derived.WalkKit
import Derived.BigCall
import Derived.BigGuard
import Derived.Deep.Draws
import Derived.Test.YtajhegjemhegiaaDoorPart01
import Derived.Test.YtajhegjemhegiaaDoorProg
import Derived.Test.YtajhegjemhegiaaDoorPart13
import Derived.Test.YtajhegjemhegiaaDoorPart30
import Derived.Test.YtajhegjemhegiaaDoorPart07
namespace Go.Proofs.YtajhegjemhegiaaDoor
open Go.RowKit TextNat

set_option maxRecDepth 100000 in
theorem count_one (s : ByteArray) (c : UInt8) (w : World) :
    Calls Tryd.prog 15 #[.string s, .string ⟨#[c]⟩] w fun e w' => e = .returned (.int .i64 (Lib.countByte s.data.toList c)) ∧ w' = w := by
  go_enter Tryd.func15, Tryd.ntmps15
  go_wp2
  rw [run_callFunc_extern Tryd.func30 (by kernel_rfl) (by kernel_rfl) (by kernel_rfl) (e := Extern.BytealgCount.count) (by kernel_rfl), Lib.run_countString]
  simp only [Result.andThen]
  rw [Oper.upon_value]
  go_wp2
  go_ret
  exact ⟨rfl, rfl⟩
theorem count_nats (s : ByteArray) (c : UInt8) : Lib.countByte s.data.toList c = (nats s).count c.toNat := by
  unfold Lib.countByte nats
  induction s.data.toList with
  | nil => rfl
  | cons a l ih =>
    rw [List.map_cons, List.count_cons, List.count_cons, ih]
    congr 1
    simp only [beq_iff_eq, UInt8.toNat_inj]
end Go.Proofs.YtajhegjemhegiaaDoor
namespace Go.Proofs.YtajhegjemhegiaaDoor
open Go.RowKit TextNat

/-- The bytes l lie in block g, from its first cell on; the mark, if there is one, lies outside. -/
def Row8 (w : World) (g : Nat) (l : List Nat) : Prop := ∃ (cur : Array Value) (T : TypeId) (fr : Nat × Nat), w.heap[g]? = some (.cells cur T fr) ∧ (fr.2 = 0 ∨ cur.size ≤ fr.1) ∧ cur.toList.take l.length = byteVals l
theorem Row8.of {w : World} {base g cap : Nat} {e : TypeId} {l : List Nat} (h : OwnsM w base e (.slice (some ⟨g, 0, none⟩) l.length cap) l.length (byteVals l)) : Row8 w g l := by
  rcases h.2 with ⟨h1, _⟩ | ⟨g', cap', cur, lo, hi, he, _, hg, hm, _, _, _, ht⟩
  · cases h1
  · simp only [Value.slice.injEq, Option.some.injEq, Addr.mk.injEq] at he
    obtain ⟨⟨rfl, _⟩, _⟩ := he
    exact ⟨cur, e, (lo, hi), hg, hm, ht⟩
theorem Row8.cell {w : World} {g : Nat} {l : List Nat} (h : Row8 w g l) {j z : Nat} (hz : l[j]? = some z) : w.cell? ⟨g, j, none⟩ = some (.int .u8 (z : Int)) := by
  obtain ⟨cur, T, fr, hg, _, ht⟩ := h
  have hj : j < l.length := (List.getElem?_eq_some_iff.1 hz).1
  rw [cell_of_row w g j cur T fr hg]
  have := congrArg (fun k : List Value => k[j]?) ht
  simp only [List.getElem?_take, if_pos hj, Array.getElem?_toList] at this
  rw [this]
  unfold byteVals
  rw [List.getElem?_map, hz]
  rfl
theorem Row8.free {w : World} {g : Nat} {l : List Nat} (h : Row8 w g l) {j : Nat} (hj : j < l.length) : w.frozen? ⟨g, j, none⟩ = false := by
  obtain ⟨cur, T, fr, hg, hm, ht⟩ := h
  have hl := congrArg List.length ht
  rw [List.length_take] at hl
  unfold byteVals at hl
  rw [List.length_map] at hl
  have hs : cur.toList.length = cur.size := Array.length_toList
  simp only [World.frozen?, hg]
  rcases hm with h | h
  · simp [h]
  · simp
    omega
theorem Row8.set {w : World} {g : Nat} {l : List Nat} (h : Row8 w g l) (i z : Nat) : Row8 (w.setCell ⟨g, i, none⟩ (.int .u8 (z : Int))) g (l.set i z) := by
  obtain ⟨cur, T, fr, hg, hm, ht⟩ := h
  refine ⟨cur.setIfInBounds i (.int .u8 (z : Int)), T, fr, by simp [World.setCell, Array.getElem?_modify, hg], by simpa using hm, ?_⟩
  rw [List.length_set, Array.toList_setIfInBounds, List.take_set, ht]
  unfold byteVals
  rw [List.map_set]
theorem Row8.lt {w : World} {g : Nat} {l : List Nat} (h : Row8 w g l) : g < w.heap.size := by
  obtain ⟨cur, T, fr, hg, _⟩ := h
  exact (Array.getElem?_eq_some_iff.1 hg).1
theorem Row8.below {w w' : World} {g : Nat} {l : List Nat} (h : Row8 w g l) (hb : Below w.heap.size w w') : Row8 w' g l := by
  have hl := h.lt
  obtain ⟨cur, T, fr, hg, hm, ht⟩ := h
  exact ⟨cur, T, fr, (hb.block g hl).trans hg, hm, ht⟩
theorem Row8.text {w : World} {g : Nat} {l : List Nat} (h : Row8 w g l) (hl : ∀ b ∈ l, b < 256) (cap : Nat) :
    (convert 43 9 (.slice (some ⟨g, 0, none⟩) l.length cap)).run Tryd.prog w = .ok (.string (txt l)) w :=
  text_row w g cap l hl (fun j hj => by
    rw [h.cell (List.getElem?_eq_getElem hj), natVals_at, List.getElem?_eq_getElem hj]
    rfl)
end Go.Proofs.YtajhegjemhegiaaDoor
namespace Go.Proofs.YtajhegjemhegiaaDoor
open Go.RowKit TextNat TokenMath

theorem tb_turn (a b : Nat) (ha : a < 256) (hb : b < 256) : bits .xor .u8 (a : Int) (b : Int) = ((a ^^^ b : Nat) : Int) := by
  have hx : a ^^^ b < 2 ^ 8 := Nat.xor_lt_two_pow (by omega) (by omega)
  show IntKind.u8.wrap ((BitVec.ofInt 8 (a : Int) ^^^ BitVec.ofInt 8 (b : Int)).toNat : Int) = _
  have h1 : (BitVec.ofInt 8 (a : Int)).toNat = a := by rw [BitVec.ofInt_natCast, BitVec.toNat_ofNat]; exact Nat.mod_eq_of_lt (by omega)
  have h2 : (BitVec.ofInt 8 (b : Int)).toNat = b := by rw [BitVec.ofInt_natCast, BitVec.toNat_ofNat]; exact Nat.mod_eq_of_lt (by omega)
  rw [BitVec.toNat_xor, h1, h2, IntKind.wrap_u8]
  omega
theorem tb_take (s : ByteArray) (n : Nat) : nats (s.extract 0 n) = (nats s).take n := by
  unfold nats
  rw [← List.map_take]
  congr 1
  simp [ByteArray.data_extract]
theorem token_shorter {m : List Nat} {v : WireMath.ClaimsT} (h : WireMath.rightClaimsT v = true) : (tokenOf m v).length ≤ 1000 := by
  have h1 := bytes_short h
  unfold tokenOf
  rw [tok_len (tag_len m v), TokenMath.enc_len]
  omega
theorem tb_same {l : List Nat} {i z c : Nat} (hz : l[i]? = some z) (hc : c = 0) : l.set i (z ^^^ c) = l := by
  rw [hc, Nat.xor_zero]
  apply List.ext_getElem?
  intro j
  by_cases hj : j = i
  · rw [hj, List.getElem?_set_self (List.getElem?_eq_some_iff.1 hz).1, hz]
  · rw [List.getElem?_set_ne (Ne.symm hj)]
set_option maxRecDepth 100000 in
set_option maxHeartbeats 8000000 in
theorem turned_true {R : Rng} (hN : RNewOk R) (hM : MintOk R) (hQ : ReadTOk R) (x : ClaimsV) (k : Int) (c : Nat) (w : World) (hP : Parts w) (hx : Ints w x.cp x.cl) (hf : x.few) (hk : I64 k) (hc : c < 256) :
    Calls Tryd.prog 5 #[x.val, .int .i64 k, .int .u8 (c : Int)] w fun e w' => e = .returned (.bool true) ∧ Below w.heap.size w w' := by
  have HG := Lib.hid (great_ok x)
  obtain ⟨se, us, ep, is, ky, cp, cl, cc⟩ := x
  simp only [ClaimsV.val] at *
  have HN := Lib.hid hN
  have HM := Lib.hid hM
  have HQ := Lib.hid hQ
  have HP := Lib.hid hP
  have HF := Lib.hid hf
  have HX := Lib.hid hx
  have HK := Lib.hid hk
  have HR3 := Lib.hid (show rightB ⟨#[109]⟩ 3 = true by decide)
  clear hN hM hQ hP hf hx hk
  go_enter Tryd.func5, Tryd.ntmps5
  go_wp2_with fail
  obtain ⟨W, hW⟩ : ∃ W, W = w.alloc (.cells #[.string se, .string us, .int .i64 ep, .int .i64 is, .int .i64 ky, .slice cp cl.length cc] 31) := ⟨_, rfl⟩
  rw [← hW]
  have hb : Below w.heap.size w W := by rw [hW]; exact (Below.refl _ _).alloc (Nat.le_refl _) _
  have HRow := Lib.hid (show Row W w.heap.size [.string se, .string us, .int .i64 ep, .int .i64 is, .int .i64 ky, .slice cp cl.length cc] 31 by rw [hW]; exact Row.new w _ _)
  replace HX := Lib.hid (HX.out.grown hb)
  have HB := Lib.hid hb
  clear hb hW
  refine (awake_true HN.out HM.out HQ.out W (HP.out.grown HB.out)).mono ?_
  rintro e w1 ⟨rfl, hb⟩
  replace HRow := Lib.hid (HRow.out.below hb); replace HX := Lib.hid (HX.out.grown hb); replace HB := Lib.hid (HB.out.trans (hb.mono HB.out.size))
  clear hb
  go_wp2_with fail
  refine (HN.out ⟨#[109]⟩ 3 _ (by decide) (by decide)).mono ?_
  rintro e w2 ⟨h1, hb⟩
  rw [if_pos HR3.out] at h1
  obtain ⟨b, rfl, h1⟩ := h1
  replace HRow := Lib.hid (HRow.out.below hb); replace HX := Lib.hid (HX.out.grown hb); replace HB := Lib.hid (HB.out.trans (hb.mono HB.out.size))
  have HH := Lib.hid h1
  clear h1 hb
  have c0 := HRow.out.cell (i := 0) rfl; have c1 := HRow.out.cell (i := 1) rfl; have c2 := HRow.out.cell (i := 2) rfl; have c3 := HRow.out.cell (i := 3) rfl; have c4 := HRow.out.cell (i := 4) rfl; have c5 := HRow.out.cell (i := 5) rfl
  go_wp2_with fail
  refine (HasR.mint HM.out HH.out HR3.out (HP.out.grown HB.out) ⟨se, us, ep, is, ky, cp, cl, cc⟩ HX.out HF.out).mono ?_
  rintro e w3 ⟨h3, hb⟩
  clear c0 c1 c2 c3 c4 c5
  replace HRow := Lib.hid (HRow.out.below hb); replace HX := Lib.hid (HX.out.grown hb); replace HB := Lib.hid (HB.out.trans (hb.mono HB.out.size))
  replace HH := Lib.hid (HH.out.below hb)
  clear hb
  unfold MintIs at h3
  by_cases hr : (ClaimsV.keyed ⟨se, us, ep, is, ky, cp, cl, cc⟩ 3).right = true
  · rw [if_pos hr] at h3
    obtain rfl := h3
    have HR := Lib.hid hr
    obtain ⟨v, hv⟩ : ∃ v, v = (ClaimsV.keyed ⟨se, us, ep, is, ky, cp, cl, cc⟩ 3).t := ⟨_, rfl⟩
    rw [← hv]
    obtain ⟨L, hL⟩ : ∃ L, L = tokenOf (nats ⟨#[109]⟩) v := ⟨_, rfl⟩
    rw [← hL]
    have HL256 := Lib.hid (show ∀ b ∈ L, b < 256 by rw [hL]; exact token_lt _ _)
    have HLS := Lib.hid (show L.length ≤ 1000 by rw [hL, hv]; exact token_shorter (rightC_t ((rightC_iff _).1 hr)))
    have HCut := Lib.hid (fun i (hi : i < L.length) => show readF (aliveN 3) (nats ⟨#[109]⟩) (L.take i) = none by rw [hL] at hi ⊢; exact read_cut hi)
    have HMore := Lib.hid (fun d => show readF (aliveN 3) (nats ⟨#[109]⟩) (L ++ [d]) = none by rw [hL]; exact read_more)
    have HSelf := Lib.hid (show readF (aliveN 3) (nats ⟨#[109]⟩) L = some v by
      have := read_minted (m := ⟨#[109]⟩) (d := 3) hr (by decide)
      rw [nats_txt _ (token_lt _ _)] at this
      rw [hL, hv]
      exact this)
    have HCnt := Lib.hid (show L.count 46 = 1 by rw [hL]; exact tok_count _ _)
    obtain ⟨S, hS⟩ : ∃ S, S = txt L := ⟨_, rfl⟩
    have HSN := Lib.hid (show nats S = L by rw [hS]; exact nats_txt L HL256.out)
    have HSL := Lib.hid (show S.size = L.length by rw [hS, txt_len])
    rw [← hS]
    clear hr hv hL hS
    have c0 := HRow.out.cell (i := 0) rfl; have c1 := HRow.out.cell (i := 1) rfl; have c2 := HRow.out.cell (i := 2) rfl; have c3 := HRow.out.cell (i := 3) rfl; have c4 := HRow.out.cell (i := 4) rfl; have c5 := HRow.out.cell (i := 5) rfl
    go_wp2_with fail
    refine (HG.out _).mono ?_
    rintro e w4 ⟨rfl, hb⟩
    clear c0 c1 c2 c3 c4 c5
    replace HRow := Lib.hid (HRow.out.below hb); replace HX := Lib.hid (HX.out.grown hb); replace HB := Lib.hid (HB.out.trans (hb.mono HB.out.size))
    replace HH := Lib.hid (HH.out.below hb)
    clear hb
    by_cases hg : greatC ⟨se, us, ep, is, ky, cp, cl, cc⟩ = true
    · rw [hg]
      clear hg
      go_wp2
      go_ret
      exact ⟨rfl, HB.out⟩
    rw [Bool.eq_false_iff.2 hg]
    clear hg
    by_cases h0 : k < 0
    · have t2 : decide (k < 0) = true := decide_eq_true h0
      clear h0
      go_wp2
      go_ret
      exact ⟨rfl, HB.out⟩
    have t2 : decide (k < 0) = false := decide_eq_false h0
    obtain ⟨i, rfl⟩ : ∃ i : Nat, k = (i : Int) := ⟨k.toNat, by omega⟩
    by_cases h4 : S.size ≤ i
    · have t3 : decide ((S.size : Int) ≤ (i : Int)) = true := decide_eq_true (by omega)
      have t3' : decide (S.size ≤ i) = true := decide_eq_true h4
      clear h0 h4
      go_wp2
      go_ret
      exact ⟨rfl, HB.out⟩
    have t3 : decide ((S.size : Int) ≤ (i : Int)) = false := decide_eq_false (by omega)
    have t3' : decide (S.size ≤ i) = false := decide_eq_false h4
    have hiS : i < S.size := by omega
    have kb := run_bytes_of_string (P := Tryd.prog) w4 9 43 5 S Tryd.underlying9 Tryd.underlying43 Tryd.underlying5
    have h5 := OwnsM.ofBytes w4 w4.heap.size 5 S (Nat.le_refl _) (by have := HSL.out; have := HLS.out; unfold maxLen; omega)
    obtain ⟨cap3, hcap3⟩ : ∃ c, c = grownCap w4 S.size 0 5 := ⟨_, rfl⟩
    rw [← hcap3] at h5 kb
    have e5 : (S.data.toList.map fun b => Value.int .u8 (b.toNat : Int)) = byteVals L := by
      rw [← HSN.out]
      simp [byteVals, nats, Function.comp_def]
    rw [e5] at h5
    have hrow : Row8 (w4.alloc (.cells (bytesRow S cap3) 5 ((bytesRow S cap3).size, (bytesRow S cap3).size + 1))) w4.heap.size L := by
      rw [HSL.out] at h5
      exact Row8.of (cap := cap3) h5
    obtain ⟨z, hz⟩ : ∃ z, L[i]? = some z := ⟨_, List.getElem?_eq_getElem (by rw [← HSL.out]; exact hiS)⟩
    have hz256 : z < 256 := HL256.out z (List.mem_of_getElem? hz)
    have cz := hrow.cell hz
    have fz := hrow.free (j := i) (by rw [← HSL.out]; exact hiS)
    obtain ⟨d, hd⟩ : ∃ d, d = z ^^^ c := ⟨_, rfl⟩
    have hd256 : d < 256 := by rw [hd]; exact Nat.xor_lt_two_pow (n := 8) hz256 hc
    have kx : bits .xor .u8 (z : Int) (c : Int) = (d : Int) := by rw [hd]; exact tb_turn z c hz256 hc
    have hset : ∀ b ∈ L.set i d, b < 256 := by
      intro b hb
      rcases List.mem_or_eq_of_mem_set hb with h | h
      · exact HL256.out b h
      · omega
    have hrow2 : Row8 ((w4.alloc (.cells (bytesRow S cap3) 5 ((bytesRow S cap3).size, (bytesRow S cap3).size + 1))).setCell ⟨w4.heap.size, i, none⟩ (.int .u8 (d : Int))).drew w4.heap.size (L.set i d) := hrow.set i d
    have kt := Row8.text hrow2 hset cap3
    rw [List.length_set, ← HSL.out] at kt
    have HB2 := Lib.hid (show Below w4.heap.size w4 ((w4.alloc (.cells (bytesRow S cap3) 5 ((bytesRow S cap3).size, (bytesRow S cap3).size + 1))).setCell ⟨w4.heap.size, i, none⟩ (.int .u8 (d : Int))).drew from (below_at7 ((Below.refl w4.heap.size w4).alloc (Nat.le_refl _) _) (Nat.le_refl _) i _).drew)
    have HRow2 := Lib.hid hrow2
    have HSame := Lib.hid (show c = 0 → L.set i d = L by intro h; rw [hd]; exact tb_same hz h)
    have HSet := Lib.hid hset
    clear h5 e5 hcap3 h0 h4 hrow hz hd hset hrow2
    go_wp2_with fail
    have HBz := Lib.hid (HB2.out)
    replace HH := Lib.hid (HH.out.below HB2.out)
    replace HB := Lib.hid (HB.out.trans (HB2.out.mono HB.out.size))
    have hic : i ≤ S.size := by omega
    have hUN : nats (txt (L.set i d)) = L.set i d := nats_txt _ HSet.out
    have hUz : (txt (L.set i d)).size = S.size := by rw [txt_len, List.length_set, HSL.out]
    generalize (((w4.alloc (.cells (bytesRow S cap3) 5 ((bytesRow S cap3).size, (bytesRow S cap3).size + 1))).setCell ⟨w4.heap.size, i, none⟩ (.int .u8 (d : Int))).drew) = w5 at HRow2 HB HH ⊢
    obtain ⟨g, hgd⟩ : ∃ g, g = w4.heap.size := ⟨_, rfl⟩
    rw [← hgd] at HRow2 ⊢
    obtain ⟨U, hU⟩ : ∃ U, U = txt (L.set i d) := ⟨_, rfl⟩
    rw [← hU] at hUN hUz ⊢
    have HUN := Lib.hid hUN
    have HUZ := Lib.hid hUz
    have HU := Lib.hid hU
    have HI := Lib.hid hiS
    clear kb kt cz fz kx hgd hUN hUz hU HB2 HBz hd256 hz256 hiS
    refine (HasR.readT HQ.out HH.out HR3.out (HP.out.grown HB.out) U (by have := HUZ.out; have := HSL.out; have := HLS.out; omega)).mono ?_
    rintro e w6 ⟨h6, hb⟩
    unfold ReadTIs at h6
    replace HH := Lib.hid (HH.out.below hb)
    replace HRow2 := Lib.hid (HRow2.out.below hb)
    replace HB := Lib.hid (HB.out.trans (hb.mono HB.out.size))
    clear hb
    cases hd : readF (aliveN 3) (nats ⟨#[109]⟩) (nats U) with
    | none =>
      rw [hd] at h6
      obtain ⟨r6, rfl, hx6⟩ := h6
      obtain ⟨T6, u6, rfl⟩ := hx6.iface
      have HE6 := Lib.hid hx6
      have HC0 := Lib.hid (show c ≠ 0 by
        intro h
        rw [HUN.out, HSame.out h, HSelf.out] at hd
        cases hd)
      clear hx6 hd
      unfold zeroC
      go_wp2_with fail
      have hb : Below w6.heap.size w6 (w6.alloc (.cells #[.string ⟨#[]⟩, .string ⟨#[]⟩, .int .i64 0, .int .i64 0, .int .i64 0, .slice none 0 0] 31)) := (Below.refl _ _).alloc (Nat.le_refl _) _
      replace HH := Lib.hid (HH.out.below hb)
      replace HRow2 := Lib.hid (HRow2.out.below hb)
      replace HE6 := Lib.hid (HE6.out.below hb)
      replace HB := Lib.hid (HB.out.trans (hb.mono HB.out.size))
      generalize w6.alloc (.cells #[.string ⟨#[]⟩, .string ⟨#[]⟩, .int .i64 0, .int .i64 0, .int .i64 0, .slice none 0 0] 31) = w7 at HH HRow2 HE6 HB ⊢
      clear hb
      refine (HasR.readT HQ.out HH.out HR3.out (HP.out.grown HB.out) (S.extract 0 i) (by have := HSL.out; have := HLS.out; rw [ByteArray.size_extract]; omega)).mono ?_
      rintro e w8 ⟨h8, hb⟩
      unfold ReadTIs at h8
      replace HH := Lib.hid (HH.out.below hb)
      replace HRow2 := Lib.hid (HRow2.out.below hb)
      replace HE6 := Lib.hid (HE6.out.below hb)
      replace HB := Lib.hid (HB.out.trans (hb.mono HB.out.size))
      clear hb
      rw [tb_take, HSN.out, HCut.out i (by rw [← HSL.out]; exact HI.out)] at h8
      obtain ⟨r8, rfl, hx8⟩ := h8
      obtain ⟨T8, u8, rfl⟩ := hx8.iface
      have HE8 := Lib.hid hx8
      clear hx8
      unfold zeroC
      have hcl : (w8.alloc (.cells #[.string ⟨#[]⟩, .string ⟨#[]⟩, .int .i64 0, .int .i64 0, .int .i64 0, .slice none 0 0] 31)).heap.size = w8.heap.size + 1 := by simp
      have kc : (convert 43 9 (.slice (some ⟨w8.heap.size + 1, 0, none⟩) 1 1)).run Tryd.prog ((w8.alloc (.cells #[.string ⟨#[]⟩, .string ⟨#[]⟩, .int .i64 0, .int .i64 0, .int .i64 0, .slice none 0 0] 31)).alloc (.cells #[.int .u8 (c : Int)] 5)) = .ok (.string (txt [c])) ((w8.alloc (.cells #[.string ⟨#[]⟩, .string ⟨#[]⟩, .int .i64 0, .int .i64 0, .int .i64 0, .slice none 0 0] 31)).alloc (.cells #[.int .u8 (c : Int)] 5)) := text_row _ (w8.heap.size + 1) 1 [c] (by intro b hb; simp at hb; omega) (fun j hj => by
        obtain rfl : j = 0 := by simpa using hj
        rw [← hcl]
        simp [natVals])
      obtain ⟨B1, hB1⟩ : ∃ B1, B1 = txt [c] := ⟨_, rfl⟩
      rw [← hB1] at kc
      have hbs : B1.size = 1 := by rw [hB1, txt_len]; rfl
      have kl : ¬ 9223372036854775807 < S.size + B1.size := by have := HSL.out; have := HLS.out; omega
      have hsz : (S ++ B1).size ≤ 1001 := by rw [ByteArray.size_append]; have := HSL.out; have := HLS.out; omega
      have hmo : nats (S ++ B1) = L ++ [c] := by rw [nats_append, HSN.out, hB1, nats_txt _ (by intro b hb; simp at hb; omega)]
      have HMO := Lib.hid hmo; have HSZ := Lib.hid hsz
      clear hcl hB1 hbs hsz hmo
      go_wp2_with fail
      have hb : Below w8.heap.size w8 ((w8.alloc (.cells #[.string ⟨#[]⟩, .string ⟨#[]⟩, .int .i64 0, .int .i64 0, .int .i64 0, .slice none 0 0] 31)).alloc (.cells #[.int .u8 (c : Int)] 5)) := ((Below.refl _ _).alloc (Nat.le_refl _) _).alloc (by simp) _
      replace HH := Lib.hid (HH.out.below hb)
      replace HRow2 := Lib.hid (HRow2.out.below hb)
      replace HE6 := Lib.hid (HE6.out.below hb)
      replace HE8 := Lib.hid (HE8.out.below hb)
      replace HB := Lib.hid (HB.out.trans (hb.mono HB.out.size))
      generalize (w8.alloc (.cells #[.string ⟨#[]⟩, .string ⟨#[]⟩, .int .i64 0, .int .i64 0, .int .i64 0, .slice none 0 0] 31)).alloc (.cells #[.int .u8 (c : Int)] 5) = w9 at HE6 HE8 HH HRow2 HB kc ⊢
      clear hb kc kl
      refine (HasR.readT HQ.out HH.out HR3.out (HP.out.grown HB.out) (S ++ B1) (Nat.le_trans HSZ.out (by decide))).mono ?_
      rintro e wa ⟨ha, hb⟩
      unfold ReadTIs at ha
      replace HH := Lib.hid (HH.out.below hb)
      replace HRow2 := Lib.hid (HRow2.out.below hb)
      replace HE6 := Lib.hid (HE6.out.below hb)
      replace HE8 := Lib.hid (HE8.out.below hb)
      replace HB := Lib.hid (HB.out.trans (hb.mono HB.out.size))
      clear hb
      rw [HMO.out, HMore.out] at ha
      obtain ⟨ra, rfl, hxa⟩ := ha
      obtain ⟨Ta, ua, rfl⟩ := hxa.iface
      have HEa := Lib.hid hxa
      clear hxa
      unfold zeroC
      have hb : Below wa.heap.size wa (wa.alloc (.cells #[.string ⟨#[]⟩, .string ⟨#[]⟩, .int .i64 0, .int .i64 0, .int .i64 0, .slice none 0 0] 31)) := (Below.refl _ _).alloc (Nat.le_refl _) _
      replace HH := Lib.hid (HH.out.below hb)
      replace HRow2 := Lib.hid (HRow2.out.below hb)
      replace HE6 := Lib.hid (HE6.out.below hb)
      replace HE8 := Lib.hid (HE8.out.below hb)
      replace HEa := Lib.hid (HEa.out.below hb)
      replace HB := Lib.hid (HB.out.trans (hb.mono HB.out.size))
      have HCo := Lib.hid (fun w => count_one S 46 w)
      simp only [count_nats, HSN.out, show (46 : UInt8).toNat = 46 from rfl, HCnt.out] at HCo
      clear hb
      go_wp2_with fail
      refine (is_err HE8.out 9).mono ?_
      rintro e wb ⟨rfl, hw⟩; rw [hw]; clear hw
      go_wp2_with fail
      refine (is_err HEa.out 9).mono ?_
      rintro e wb ⟨rfl, hw⟩; rw [hw]; clear hw
      go_wp2_with fail
      refine (HCo.out _).mono ?_
      rintro e wb ⟨rfl, hw⟩; rw [hw]; clear hw
      have u1 : ((c : Int) != 0) = true := by rw [bne_iff_ne]; have := HC0.out; omega
      go_wp2_with fail
      refine (is_err HE6.out 9).mono ?_
      rintro e wb ⟨rfl, hw⟩; rw [hw]; clear hw
      go_wp2
      go_ret
      exact ⟨rfl, HB.out⟩
    | some v =>
      rw [hd] at h6
      obtain ⟨dp, dc, rfl, hz, _⟩ := h6
      obtain ⟨q1, q2, q3, q4⟩ := readF_iff.1 hd
      have q5 := key_right q1
      obtain ⟨v1, v2, v3, v4, v5, v6⟩ := v
      replace q5 : v5 ≤ 1099511627776 := q5
      have hkr : rightB ⟨#[109]⟩ (v5 : Int) = true := by
        unfold rightB
        simp only [Bool.and_eq_true, decide_eq_true_eq]
        exact ⟨⟨⟨by decide, by decide⟩, by omega⟩, by omega⟩
      have HKR := Lib.hid hkr
      have HNk := Lib.hid (fun w1 => HN.out ⟨#[109]⟩ (v5 : Int) w1 (by decide) ⟨by omega, by omega⟩)
      have HFew := Lib.hid (few_read q1 dp dc)
      have HLn := Lib.hid (show (v6.map Int.ofNat).length = v6.length from List.length_map ..)
      have HIs := Lib.hid (fun w1 e1 (h : MintIs w1 ⟨#[109]⟩ (v5 : Int) (readCV (v1, v2, v3, v4, v5, v6) dp dc) e1) => mint_read hd h)
      rw [show (readCV (v1, v2, v3, v4, v5, v6) dp dc).val = .agg #[.string (txt v1), .string (txt v2), .int .i64 (v3 : Int), .int .i64 (v4 : Int), .int .i64 (v5 : Int), .slice dp v6.length dc] by simp only [readCV, ClaimsV.val, HLn.out]]
      have HZ := Lib.hid (show Ints w6 dp (v6.map Int.ofNat) from hz)
      clear hd hz q1 q2 q3 q4 q5 hkr
      go_wp2_with fail
      have HD := Lib.hid (show Row (w6.alloc (.cells #[.string (txt v1), .string (txt v2), .int .i64 (v3 : Int), .int .i64 (v4 : Int), .int .i64 (v5 : Int), .slice dp v6.length dc] 31)) w6.heap.size [.string (txt v1), .string (txt v2), .int .i64 (v3 : Int), .int .i64 (v4 : Int), .int .i64 (v5 : Int), .slice dp v6.length dc] 31 from Row.new w6 _ _)
      have hb : Below w6.heap.size w6 (w6.alloc (.cells #[.string (txt v1), .string (txt v2), .int .i64 (v3 : Int), .int .i64 (v4 : Int), .int .i64 (v5 : Int), .slice dp v6.length dc] 31)) := (Below.refl _ _).alloc (Nat.le_refl _) _
      replace HH := Lib.hid (HH.out.below hb)
      replace HRow2 := Lib.hid (HRow2.out.below hb)
      replace HZ := Lib.hid (HZ.out.grown hb)
      replace HB := Lib.hid (HB.out.trans (hb.mono HB.out.size))
      generalize w6.alloc (.cells #[.string (txt v1), .string (txt v2), .int .i64 (v3 : Int), .int .i64 (v4 : Int), .int .i64 (v5 : Int), .slice dp v6.length dc] 31) = w7 at HD HZ HH HRow2 HB ⊢
      obtain ⟨db, hdb⟩ : ∃ db, db = w6.heap.size := ⟨_, rfl⟩
      rw [← hdb] at HD ⊢
      clear hb hdb
      refine (HasR.readT HQ.out HH.out HR3.out (HP.out.grown HB.out) (S.extract 0 i) (by have := HSL.out; have := HLS.out; rw [ByteArray.size_extract]; omega)).mono ?_
      rintro e w8 ⟨h8, hb⟩
      unfold ReadTIs at h8
      replace HH := Lib.hid (HH.out.below hb)
      replace HRow2 := Lib.hid (HRow2.out.below hb)
      replace HD := Lib.hid (HD.out.below hb)
      replace HZ := Lib.hid (HZ.out.grown hb)
      replace HB := Lib.hid (HB.out.trans (hb.mono HB.out.size))
      clear hb
      rw [tb_take, HSN.out, HCut.out i (by rw [← HSL.out]; exact HI.out)] at h8
      obtain ⟨r8, rfl, hx8⟩ := h8
      obtain ⟨T8, u8, rfl⟩ := hx8.iface
      have HE8 := Lib.hid hx8
      clear hx8
      unfold zeroC
      have hcl : (w8.alloc (.cells #[.string ⟨#[]⟩, .string ⟨#[]⟩, .int .i64 0, .int .i64 0, .int .i64 0, .slice none 0 0] 31)).heap.size = w8.heap.size + 1 := by simp
      have kc : (convert 43 9 (.slice (some ⟨w8.heap.size + 1, 0, none⟩) 1 1)).run Tryd.prog ((w8.alloc (.cells #[.string ⟨#[]⟩, .string ⟨#[]⟩, .int .i64 0, .int .i64 0, .int .i64 0, .slice none 0 0] 31)).alloc (.cells #[.int .u8 (c : Int)] 5)) = .ok (.string (txt [c])) ((w8.alloc (.cells #[.string ⟨#[]⟩, .string ⟨#[]⟩, .int .i64 0, .int .i64 0, .int .i64 0, .slice none 0 0] 31)).alloc (.cells #[.int .u8 (c : Int)] 5)) := text_row _ (w8.heap.size + 1) 1 [c] (by intro b hb; simp at hb; omega) (fun j hj => by
        obtain rfl : j = 0 := by simpa using hj
        rw [← hcl]
        simp [natVals])
      obtain ⟨B1, hB1⟩ : ∃ B1, B1 = txt [c] := ⟨_, rfl⟩
      rw [← hB1] at kc
      have hbs : B1.size = 1 := by rw [hB1, txt_len]; rfl
      have kl : ¬ 9223372036854775807 < S.size + B1.size := by have := HSL.out; have := HLS.out; omega
      have hsz : (S ++ B1).size ≤ 1001 := by rw [ByteArray.size_append]; have := HSL.out; have := HLS.out; omega
      have hmo : nats (S ++ B1) = L ++ [c] := by rw [nats_append, HSN.out, hB1, nats_txt _ (by intro b hb; simp at hb; omega)]
      have HMO := Lib.hid hmo; have HSZ := Lib.hid hsz
      clear hcl hB1 hbs hsz hmo
      go_wp2_with fail
      have hb : Below w8.heap.size w8 ((w8.alloc (.cells #[.string ⟨#[]⟩, .string ⟨#[]⟩, .int .i64 0, .int .i64 0, .int .i64 0, .slice none 0 0] 31)).alloc (.cells #[.int .u8 (c : Int)] 5)) := ((Below.refl _ _).alloc (Nat.le_refl _) _).alloc (by simp) _
      replace HH := Lib.hid (HH.out.below hb)
      replace HRow2 := Lib.hid (HRow2.out.below hb)
      replace HE8 := Lib.hid (HE8.out.below hb)
      replace HD := Lib.hid (HD.out.below hb)
      replace HZ := Lib.hid (HZ.out.grown hb)
      replace HB := Lib.hid (HB.out.trans (hb.mono HB.out.size))
      generalize (w8.alloc (.cells #[.string ⟨#[]⟩, .string ⟨#[]⟩, .int .i64 0, .int .i64 0, .int .i64 0, .slice none 0 0] 31)).alloc (.cells #[.int .u8 (c : Int)] 5) = w9 at HE8 HD HZ HH HRow2 HB kc ⊢
      clear hb kc kl
      refine (HasR.readT HQ.out HH.out HR3.out (HP.out.grown HB.out) (S ++ B1) (Nat.le_trans HSZ.out (by decide))).mono ?_
      rintro e wa ⟨ha, hb⟩
      unfold ReadTIs at ha
      replace HH := Lib.hid (HH.out.below hb)
      replace HRow2 := Lib.hid (HRow2.out.below hb)
      replace HE8 := Lib.hid (HE8.out.below hb)
      replace HD := Lib.hid (HD.out.below hb)
      replace HZ := Lib.hid (HZ.out.grown hb)
      replace HB := Lib.hid (HB.out.trans (hb.mono HB.out.size))
      clear hb
      rw [HMO.out, HMore.out] at ha
      obtain ⟨ra, rfl, hxa⟩ := ha
      obtain ⟨Ta, ua, rfl⟩ := hxa.iface
      have HEa := Lib.hid hxa
      clear hxa
      unfold zeroC
      have hb : Below wa.heap.size wa (wa.alloc (.cells #[.string ⟨#[]⟩, .string ⟨#[]⟩, .int .i64 0, .int .i64 0, .int .i64 0, .slice none 0 0] 31)) := (Below.refl _ _).alloc (Nat.le_refl _) _
      replace HH := Lib.hid (HH.out.below hb)
      replace HRow2 := Lib.hid (HRow2.out.below hb)
      replace HE8 := Lib.hid (HE8.out.below hb)
      replace HEa := Lib.hid (HEa.out.below hb)
      replace HD := Lib.hid (HD.out.below hb)
      replace HZ := Lib.hid (HZ.out.grown hb)
      replace HB := Lib.hid (HB.out.trans (hb.mono HB.out.size))
      have HCo := Lib.hid (fun w => count_one S 46 w)
      simp only [count_nats, HSN.out, show (46 : UInt8).toNat = 46 from rfl, HCnt.out] at HCo
      clear hb
      go_wp2_with fail
      refine (is_err HE8.out 9).mono ?_
      rintro e wb ⟨rfl, hw⟩; rw [hw]; clear hw
      go_wp2_with fail
      refine (is_err HEa.out 9).mono ?_
      rintro e wb ⟨rfl, hw⟩; rw [hw]; clear hw
      go_wp2_with fail
      refine (HCo.out _).mono ?_
      rintro e wb ⟨rfl, hw⟩; rw [hw]; clear hw
      have d4 := HD.out.cell (i := 4) rfl
      go_wp2_with fail
      refine (HNk.out _).mono ?_
      rintro e wc ⟨h5, hb⟩
      rw [if_pos HKR.out] at h5
      obtain ⟨b2, rfl, h5⟩ := h5
      replace HH := Lib.hid (HH.out.below hb)
      replace HRow2 := Lib.hid (HRow2.out.below hb)
      replace HE8 := Lib.hid (HE8.out.below hb)
      replace HEa := Lib.hid (HEa.out.below hb)
      replace HD := Lib.hid (HD.out.below hb)
      replace HZ := Lib.hid (HZ.out.grown hb)
      replace HB := Lib.hid (HB.out.trans (hb.mono HB.out.size))
      have HMt := Lib.hid ((HasR.mint HM.out h5 HKR.out (HP.out.grown HB.out) (readCV (v1, v2, v3, v4, v5, v6) dp dc) HZ.out HFew.out).mono (R' := fun e w' => e = .returned (.tuple #[.string U, .nilIface]) ∧ Below wc.heap.size wc w') (fun e w' h => ⟨HIs.out w' e h.1, h.2⟩))
      simp only [readCV, ClaimsV.val, HLn.out] at HMt
      clear d4
      have d0 := HD.out.cell (i := 0) rfl; have d1 := HD.out.cell (i := 1) rfl; have d2 := HD.out.cell (i := 2) rfl; have d3 := HD.out.cell (i := 3) rfl; have d4 := HD.out.cell (i := 4) rfl; have d5 := HD.out.cell (i := 5) rfl
      clear hb h5
      go_wp2_with fail
      refine HMt.out.mono ?_
      rintro e wd ⟨rfl, hb⟩
      replace HH := Lib.hid (HH.out.below hb)
      replace HRow2 := Lib.hid (HRow2.out.below hb)
      replace HE8 := Lib.hid (HE8.out.below hb)
      replace HEa := Lib.hid (HEa.out.below hb)
      replace HD := Lib.hid (HD.out.below hb)
      replace HZ := Lib.hid (HZ.out.grown hb)
      replace HB := Lib.hid (HB.out.trans (hb.mono HB.out.size))
      have kt := Row8.text HRow2.out HSet.out cap3
      rw [List.length_set, ← HSL.out, ← HU.out] at kt
      clear hb d0 d1 d2 d3 d4 d5
      go_wp2
      go_ret
      exact ⟨rfl, HB.out⟩
  · rw [if_neg hr] at h3
    obtain ⟨r, rfl, hx⟩ := h3
    obtain ⟨T, u, rfl⟩ := hx.iface
    clear hx hr
    have c0 := HRow.out.cell (i := 0) rfl; have c1 := HRow.out.cell (i := 1) rfl; have c2 := HRow.out.cell (i := 2) rfl; have c3 := HRow.out.cell (i := 3) rfl; have c4 := HRow.out.cell (i := 4) rfl; have c5 := HRow.out.cell (i := 5) rfl
    go_wp2_with fail
    refine (HG.out _).mono ?_
    rintro e w4 ⟨rfl, hb⟩
    clear c0 c1 c2 c3 c4 c5
    replace HRow := Lib.hid (HRow.out.below hb); replace HX := Lib.hid (HX.out.grown hb); replace HB := Lib.hid (HB.out.trans (hb.mono HB.out.size))
    clear hb
    cases greatC ⟨se, us, ep, is, ky, cp, cl, cc⟩
    all_goals
      go_wp2
      go_ret
      exact ⟨rfl, HB.out⟩
end Go.Proofs.YtajhegjemhegiaaDoor
