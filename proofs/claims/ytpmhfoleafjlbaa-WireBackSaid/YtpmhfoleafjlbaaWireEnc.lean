/-
  The contract of the program's EncodeWrite of chapter 5: a right write's bytes, or an error. The conditions: the vector's cells; the numbers are Go's.
-/
import Derived.Test.YtpmhfoleafjlbaaWireRight
import Derived.Test.YtpmhfoleafjlbaaWireDone
import Derived.Test.YtpmhfoleafjlbaaWireEncMath
namespace Go.Proofs.Ytpmhfoleafjlbaa
open Go.RowKit TextNat

/-- A write that lies in block B. -/
structure Fields (w : World) (B : Nat) (x : WriteV) : Prop where
  f0 : w.cell? ⟨B, 0, none⟩ = some (.int .i64 x.region)
  f1 : w.cell? ⟨B, 1, none⟩ = some (.int .i64 x.number)
  f2 : w.cell? ⟨B, 2, none⟩ = some (.int .i64 x.time)
  f4 : w.cell? ⟨B, 4, none⟩ = some (.slice x.dp x.dl.length x.dc)
  f5 : w.cell? ⟨B, 5, none⟩ = some (.string x.session)
  f6 : w.cell? ⟨B, 6, none⟩ = some (.string x.key)
  f7 : w.cell? ⟨B, 7, none⟩ = some (.string x.value)
  f8 : w.cell? ⟨B, 8, none⟩ = some (.bool x.gone)
  f9 : w.cell? ⟨B, 9, none⟩ = some (.int .i64 x.life)
theorem Fields.but {w w' : World} {B pb : Nat} {x : WriteV} (h : Fields w B x) (hb : But pb w w') (hn : B ≠ pb) : Fields w' B x :=
  have hl := cell_lt h.f0
  ⟨(hb.cell hl hn).trans h.f0, (hb.cell hl hn).trans h.f1, (hb.cell hl hn).trans h.f2, (hb.cell hl hn).trans h.f4, (hb.cell hl hn).trans h.f5, (hb.cell hl hn).trans h.f6, (hb.cell hl hn).trans h.f7, (hb.cell hl hn).trans h.f8, (hb.cell hl hn).trans h.f9⟩
structure WriteV.small (x : WriteV) : Prop where
  region : -9223372036854775808 ≤ x.region ∧ x.region ≤ 9223372036854775807
  number : -9223372036854775808 ≤ x.number ∧ x.number ≤ 9223372036854775807
  time : -9223372036854775808 ≤ x.time ∧ x.time ≤ 9223372036854775807
  life : -9223372036854775808 ≤ x.life ∧ x.life ≤ 9223372036854775807
  vec : x.dl.length ≤ 9223372036854775807

theorem Fields.below {w w' : World} {B C : Nat} {x : WriteV} (h : Fields w B x) (hb : Below C w w') (hn : B < C) : Fields w' B x :=
  ⟨(hb.cell (p := ⟨B, 0, none⟩) hn).trans h.f0, (hb.cell (p := ⟨B, 1, none⟩) hn).trans h.f1, (hb.cell (p := ⟨B, 2, none⟩) hn).trans h.f2, (hb.cell (p := ⟨B, 4, none⟩) hn).trans h.f4, (hb.cell (p := ⟨B, 5, none⟩) hn).trans h.f5, (hb.cell (p := ⟨B, 6, none⟩) hn).trans h.f6, (hb.cell (p := ⟨B, 7, none⟩) hn).trans h.f7, (hb.cell (p := ⟨B, 8, none⟩) hn).trans h.f8, (hb.cell (p := ⟨B, 9, none⟩) hn).trans h.f9⟩
/-- A new Out has nothing. -/
theorem out_new (w : World) : OutAt (w.alloc (.cells #[.pointer none, .int .i64 0, .int .i64 0] 74)) w.heap.size ⟨[], none⟩ :=
  ⟨⟨[], none, rfl, rfl, by simp⟩, by simp, by simp [faultCode], by simp, by simp, by simp, (fun b hb => by cases hb), by simp, (fun c k h => by cases h)⟩
/-- What is put of a write. -/
def putWrite (x : WriteV) : WireMath.Put :=
  WireMath.putN (WireMath.putN (WireMath.putN (WireMath.putN (WireMath.putN (putVec (WireMath.putN (WireMath.putN (WireMath.putN ⟨[], none⟩ [x.region] []) [x.number] []) [x.time] []) x.dl) [(x.session.size : Int)] (nats x.session)) [(x.key.size : Int)] (nats x.key)) [if x.gone then 1 else 0] []) [(x.value.size : Int)] (nats x.value)) [x.life] []

set_option maxRecDepth 100000 in
set_option maxHeartbeats 4000000 in
theorem encWrite_walk (x : WriteV) (w : World) (hz : Ints w x.dp x.dl) (hs : x.small) (h1 : x.session.size ≤ 200000) (h2 : x.key.size ≤ 200000) (h3 : x.value.size ≤ 200000) (hx : x.right = true) (bs : List Nat) (hp : putWrite x = ⟨bs, none⟩) :
    Calls Try.prog 20 #[x.val] w fun e w' => e = .returned (.tuple #[.string (txt bs), .nilIface]) ∧ Below w.heap.size w w' := by
  have HP := Lib.hid hp
  clear hp
  obtain ⟨B, hB⟩ : ∃ B, B = w.heap.size := ⟨_, rfl⟩
  obtain ⟨region, number, time, sreg, dp, dl, dc, session, key, value, gone, life⟩ := x
  obtain ⟨W, hW⟩ : ∃ W, W = w.alloc (.cells #[.int .i64 region, .int .i64 number, .int .i64 time, .int .i64 sreg, .slice dp dl.length dc, .string session, .string key, .string value, .bool gone, .int .i64 life] 47) := ⟨_, rfl⟩
  have hBW : Below w.heap.size w W := by rw [hW]; exact (Below.refl _ _).alloc (Nat.le_refl _) _
  have hF : Fields W B ⟨region, number, time, sreg, dp, dl, dc, session, key, value, gone, life⟩ := by
    rw [hW, hB]
    exact ⟨by simp, by simp, by simp, by simp, by simp, by simp, by simp, by simp, by simp⟩
  have hR := rightWrite_ok ⟨region, number, time, sreg, dp, dl, dc, session, key, value, gone, life⟩ W (hz.grown hBW) hs.vec
  rw [hx] at hR
  have hBlt : B < W.heap.size := by rw [hW, hB]; simp
  obtain ⟨r1, r2, r3, r4, hvl⟩ := hs
  have HI := Lib.hid (hz.grown hBW)
  have HF := Lib.hid hF
  have HR := Lib.hid hR
  have HW := Lib.hid hW
  have HB := Lib.hid hBW
  have HBB := Lib.hid hB
  simp only [WriteV.val] at *
  clear hz hx hBW hF hR hW hB
  go_enter Try.func20, Try.ntmps20
  go_wp2_with fail
  rw [← HW.out]
  refine HR.out.mono ?_
  rintro e w3 ⟨rfl, hb⟩
  have HF3 := Lib.hid (HF.out.below hb hBlt)
  have HB3 := Lib.hid (HB.out.trans (hb.mono HB.out.size))
  have HI3 := Lib.hid (HI.out.grown hb)
  have HL3 := Lib.hid (Nat.lt_of_lt_of_le hBlt hb.size)
  have HO := Lib.hid (out_new w3)
  have HK : Hid (Below w3.heap.size w3 (w3.alloc (.cells #[.pointer none, .int .i64 0, .int .i64 0] 74))) := Lib.hid ((Below.refl _ _).alloc (Nat.le_refl _) _)
  clear hb HF HB HI hBlt
  simp only [HBB.out] at *
  have f0 := (HF3.out.below HK.out HL3.out).f0
  have f1 := (HF3.out.below HK.out HL3.out).f1
  have f2 := (HF3.out.below HK.out HL3.out).f2
  have f4 := (HF3.out.below HK.out HL3.out).f4
  have f5 := (HF3.out.below HK.out HL3.out).f5
  have f6 := (HF3.out.below HK.out HL3.out).f6
  have f7 := (HF3.out.below HK.out HL3.out).f7
  have f8 := (HF3.out.below HK.out HL3.out).f8
  have f9 := (HF3.out.below HK.out HL3.out).f9
  go_wp2_with (first
    | (go_at_call 33; refine (num_ok _ _ _ _ HO.out (by first | exact r1 | exact r2 | exact r3 | exact r4)).mono ?_; rintro e wk ⟨rfl, ho, hb⟩; replace HO := Lib.hid ho; replace HK := Lib.hid (HK.out.trans (hb.below HK.out.size)); clear ho hb f0 f1 f2 f4 f5 f6 f7 f8 f9; have f0 := (HF3.out.below HK.out HL3.out).f0; have f1 := (HF3.out.below HK.out HL3.out).f1; have f2 := (HF3.out.below HK.out HL3.out).f2; have f4 := (HF3.out.below HK.out HL3.out).f4; have f5 := (HF3.out.below HK.out HL3.out).f5; have f6 := (HF3.out.below HK.out HL3.out).f6; have f7 := (HF3.out.below HK.out HL3.out).f7; have f8 := (HF3.out.below HK.out HL3.out).f8; have f9 := (HF3.out.below HK.out HL3.out).f9)
    | (go_at_call 35; refine (text_ok _ _ _ _ HO.out (by first | exact h1 | exact h2 | exact h3)).mono ?_; rintro e wk ⟨rfl, ho, hb⟩; replace HO := Lib.hid ho; replace HK := Lib.hid (HK.out.trans (hb.below HK.out.size)); clear ho hb f0 f1 f2 f4 f5 f6 f7 f8 f9; have f0 := (HF3.out.below HK.out HL3.out).f0; have f1 := (HF3.out.below HK.out HL3.out).f1; have f2 := (HF3.out.below HK.out HL3.out).f2; have f4 := (HF3.out.below HK.out HL3.out).f4; have f5 := (HF3.out.below HK.out HL3.out).f5; have f6 := (HF3.out.below HK.out HL3.out).f6; have f7 := (HF3.out.below HK.out HL3.out).f7; have f8 := (HF3.out.below HK.out HL3.out).f8; have f9 := (HF3.out.below HK.out HL3.out).f9)
    | (go_at_call 36; refine (flag_ok _ _ _ _ HO.out).mono ?_; rintro e wk ⟨rfl, ho, hb⟩; replace HO := Lib.hid ho; replace HK := Lib.hid (HK.out.trans (hb.below HK.out.size)); clear ho hb f0 f1 f2 f4 f5 f6 f7 f8 f9; have f0 := (HF3.out.below HK.out HL3.out).f0; have f1 := (HF3.out.below HK.out HL3.out).f1; have f2 := (HF3.out.below HK.out HL3.out).f2; have f4 := (HF3.out.below HK.out HL3.out).f4; have f5 := (HF3.out.below HK.out HL3.out).f5; have f6 := (HF3.out.below HK.out HL3.out).f6; have f7 := (HF3.out.below HK.out HL3.out).f7; have f8 := (HF3.out.below HK.out HL3.out).f8; have f9 := (HF3.out.below HK.out HL3.out).f9)
    | (go_at_call 34; refine (vec_ok _ _ _ _ _ _ HO.out (HI3.out.grown HK.out) hvl).mono ?_; rintro e wk ⟨rfl, ho, hb⟩; replace HO := Lib.hid ho; replace HK := Lib.hid (HK.out.trans (hb.below HK.out.size)); clear ho hb f0 f1 f2 f4 f5 f6 f7 f8 f9; have f0 := (HF3.out.below HK.out HL3.out).f0; have f1 := (HF3.out.below HK.out HL3.out).f1; have f2 := (HF3.out.below HK.out HL3.out).f2; have f4 := (HF3.out.below HK.out HL3.out).f4; have f5 := (HF3.out.below HK.out HL3.out).f5; have f6 := (HF3.out.below HK.out HL3.out).f6; have f7 := (HF3.out.below HK.out HL3.out).f7; have f8 := (HF3.out.below HK.out HL3.out).f8; have f9 := (HF3.out.below HK.out HL3.out).f9)
    | (go_at_call 12; refine (done_ok _ _ _ HO.out).mono ?_; rintro e wk ⟨hd, hb⟩; have hd' : DoneIs wk ⟨bs, none⟩ e := (by rw [← HP.out]; exact hd); obtain rfl : e = .returned (.tuple #[.string (txt bs), .nilIface]) := hd'; replace HK := Lib.hid (HK.out.trans (hb.mono HK.out.size)); clear hd hb))
  go_ret2
  exact ⟨rfl, HB3.out.trans (HK.out.mono HB3.out.size)⟩

/-- A write in plain numbers. -/
def WriteV.t (x : WriteV) : WireMath.WriteT := (x.region.toNat, x.number.toNat, x.time.toNat, x.dl.map Int.toNat, nats x.session, nats x.key, x.gone, nats x.value, x.life.toNat)
theorem map_back {zs : List Int} (h : ∀ z ∈ zs, 0 ≤ z) : (zs.map Int.toNat).map Int.ofNat = zs := by
  rw [List.map_map]
  conv => rhs; rw [← List.map_id zs]
  refine List.map_congr_left fun z hz => ?_
  have := h z hz
  show Int.ofNat z.toNat = z
  exact Int.toNat_of_nonneg this
theorem trimmed_pos {zs : List Int} {m : Int} (h : WireMath.trimmed zs m = true) : ∀ z ∈ zs, 0 ≤ z := fun z hz => by
  rw [trimmed_whole] at h
  simp only [Bool.and_eq_true, List.all_eq_true] at h
  exact (inr_iff.1 (h.1.2 z hz)).1
theorem toList_nil {s : ByteArray} : s.toList.isEmpty = decide (s.size = 0) := by
  rw [ByteArray.toList_eq]
  have : s.data.toList.length = s.size := Array.length_toList
  cases h : s.data.toList with
  | nil => rw [h] at this; simp at this; simp [← this]
  | cons a r => rw [h] at this; simp at this; rw [decide_eq_false (by omega)]; rfl
structure RightIs (x : WriteV) : Prop where
  region : 1 ≤ x.region ∧ x.region ≤ 16
  number : 1 ≤ x.number ∧ x.number ≤ 1099511627776
  time : 1 ≤ x.time ∧ x.time ≤ 1099511627776
  sreg : x.sreg = x.region
  deps : WireMath.trimmed x.dl WireMath.big = true
  session : 1 ≤ x.session.size ∧ x.session.size ≤ 64
  key : x.key.size ≤ 32
  value : x.value.size ≤ 128
  gone : x.value.size = 0 ∨ x.gone = false
  life : 0 ≤ x.life ∧ x.life ≤ 1099511627776
theorem right_iff (x : WriteV) : x.right = true ↔ RightIs x := by
  unfold WriteV.right
  rw [toList_nil]
  simp only [Bool.and_eq_true, Bool.or_eq_true, inr_iff, decide_eq_true_eq, beq_iff_eq, Bool.not_eq_true']
  constructor
  · rintro ⟨h1, h2, h3, h4, h5, h6, h7, h8, h9, h10⟩
    exact ⟨h1, h2, h3, h4, h5, by omega, by omega, by omega, h9, h10⟩
  · rintro ⟨h1, h2, h3, h4, h5, h6, h7, h8, h9, h10⟩
    exact ⟨h1, h2, h3, h4, h5, by omega, by omega, by omega, h9, h10⟩
theorem right_t {x : WriteV} (h : RightIs x) : WireMath.rightWriteT x.t = true := by
  obtain ⟨h1, h2, h3, h4, h5, h6, h7, h8, h9, h10⟩ := h
  have hb := map_back (trimmed_pos h5)
  unfold WireMath.rightWriteT WriteV.t
  simp only [Bool.and_eq_true, Bool.or_eq_true, decide_eq_true_eq, Bool.not_eq_true', nats_len, hb]
  unfold WireMath.big at *
  refine ⟨⟨⟨⟨⟨⟨⟨⟨⟨⟨⟨⟨?_, ?_⟩, ?_⟩, ?_⟩, ?_⟩, ?_⟩, h5⟩, ?_⟩, ?_⟩, ?_⟩, ?_⟩, ?_⟩, ?_⟩ <;> first | exact h9 | omega
theorem right_put {x : WriteV} (h : RightIs x) : putWrite x = ⟨WireMath.writeBytesT x.t, none⟩ := by
  have ht := WireMath.write_small (right_t h)
  obtain ⟨h1, h2, h3, h4, h5, h6, h7, h8, h9, h10⟩ := h
  have hb := map_back (trimmed_pos h5)
  unfold WireMath.writeBytesT at ht ⊢
  simp only [List.length_append, WriteV.t] at ht
  have hw : whole_ x.dl = true := by rw [trimmed_whole] at h5; simp only [Bool.and_eq_true] at h5; exact h5.2
  have hl : x.dl.length ≤ 16 := by rw [trimmed_whole] at h5; simp only [Bool.and_eq_true, decide_eq_true_eq] at h5; exact h5.1.1
  unfold putWrite putVec
  rw [if_pos ⟨hl, hw⟩]
  have k1 := WireMath.putN_num (p := ⟨[], none⟩) (z := x.region) rfl (by omega) (by unfold WireMath.top; omega) (by simp only [List.length_nil]; omega)
  rw [k1]
  have k2 := WireMath.putN_num (p := ⟨([] ++ WireMath.num x.region.toNat), none⟩) (z := x.number) rfl (by omega) (by unfold WireMath.top; omega) (by simp only [List.length_append, List.length_nil]; omega)
  rw [k2]
  have k3 := WireMath.putN_num (p := ⟨(([] ++ WireMath.num x.region.toNat) ++ WireMath.num x.number.toNat), none⟩) (z := x.time) rfl (by omega) (by unfold WireMath.top; omega) (by simp only [List.length_append, List.length_nil]; omega)
  rw [k3]
  have k4 := WireMath.putN_vec (p := ⟨((([] ++ WireMath.num x.region.toNat) ++ WireMath.num x.number.toNat) ++ WireMath.num x.time.toNat), none⟩) (v := x.dl.map Int.toNat) rfl (by rw [hb]; exact h5) (by simp only [List.length_append, List.length_nil]; omega)
  rw [hb] at k4
  rw [k4]
  have k5 := WireMath.putN_text (p := ⟨(((([] ++ WireMath.num x.region.toNat) ++ WireMath.num x.number.toNat) ++ WireMath.num x.time.toNat) ++ WireMath.vecBytesN (x.dl.map Int.toNat)), none⟩) (s := nats x.session) rfl (by rw [nats_len]; omega) (by simp only [List.length_append, List.length_nil]; omega)
  rw [nats_len] at k5
  rw [k5]
  have k6 := WireMath.putN_text (p := ⟨((((([] ++ WireMath.num x.region.toNat) ++ WireMath.num x.number.toNat) ++ WireMath.num x.time.toNat) ++ WireMath.vecBytesN (x.dl.map Int.toNat)) ++ WireMath.textBytes (nats x.session)), none⟩) (s := nats x.key) rfl (by rw [nats_len]; omega) (by simp only [List.length_append, List.length_nil]; omega)
  rw [nats_len] at k6
  rw [k6]
  have k7 := WireMath.putN_flag (p := ⟨(((((([] ++ WireMath.num x.region.toNat) ++ WireMath.num x.number.toNat) ++ WireMath.num x.time.toNat) ++ WireMath.vecBytesN (x.dl.map Int.toNat)) ++ WireMath.textBytes (nats x.session)) ++ WireMath.textBytes (nats x.key)), none⟩) (b := x.gone) rfl (by simp only [List.length_append, List.length_nil]; omega)
  rw [k7]
  have k8 := WireMath.putN_text (p := ⟨((((((([] ++ WireMath.num x.region.toNat) ++ WireMath.num x.number.toNat) ++ WireMath.num x.time.toNat) ++ WireMath.vecBytesN (x.dl.map Int.toNat)) ++ WireMath.textBytes (nats x.session)) ++ WireMath.textBytes (nats x.key)) ++ WireMath.flagBytes x.gone), none⟩) (s := nats x.value) rfl (by rw [nats_len]; omega) (by simp only [List.length_append, List.length_nil]; omega)
  rw [nats_len] at k8
  rw [k8]
  have k9 := WireMath.putN_num (p := ⟨(((((((([] ++ WireMath.num x.region.toNat) ++ WireMath.num x.number.toNat) ++ WireMath.num x.time.toNat) ++ WireMath.vecBytesN (x.dl.map Int.toNat)) ++ WireMath.textBytes (nats x.session)) ++ WireMath.textBytes (nats x.key)) ++ WireMath.flagBytes x.gone) ++ WireMath.textBytes (nats x.value)), none⟩) (z := x.life) rfl (by omega) (by unfold WireMath.top; omega) (by simp only [List.length_append, List.length_nil]; omega)
  rw [k9]
  simp only [WriteV.t, List.nil_append, List.append_assoc]

/-- What EncodeWrite answers. -/
def EncIs (w : World) (x : WriteV) (e : Ending) : Prop :=
  if x.right then e = .returned (.tuple #[.string (txt (WireMath.writeBytesT x.t)), .nilIface])
  else ∃ r, e = .returned (.tuple #[.string ⟨#[]⟩, r]) ∧ Chain w.heap.size w [(⟨#[119, 105, 114, 101]⟩, (0 : Int))] (.iface 51 (.int .i64 (1 : Int))) r
set_option maxRecDepth 100000 in
set_option maxHeartbeats 4000000 in
theorem encWrite_ok (x : WriteV) (w : World) (hz : Ints w x.dp x.dl) (hs : x.small) :
    Calls Try.prog 20 #[x.val] w fun e w' => EncIs w' x e ∧ Below w.heap.size w w' := by
  cases hx : x.right with
  | true =>
    have h := (right_iff x).1 hx
    refine (encWrite_walk x w hz hs (by have := h.session; omega) (by have := h.key; omega) (by have := h.value; omega) hx _ (right_put h)).mono ?_
    rintro e w' ⟨rfl, hb⟩
    exact ⟨by unfold EncIs; rw [hx]; rfl, hb⟩
  | false =>
    have HD := Lib.hid (show ∀ w' r, Chain w'.heap.size w' [(⟨#[119, 105, 114, 101]⟩, (0 : Int))] (.iface 51 (.int .i64 (1 : Int))) r → EncIs w' x (.returned (.tuple #[.string ⟨#[]⟩, r])) from fun w' r hr => by unfold EncIs; rw [hx]; exact ⟨r, rfl, hr⟩)
    have HA := Lib.hid (fun w1 => at_chain ⟨#[119, 105, 114, 101]⟩ (0 : Int) [] (1 : Int) (.iface 51 (.int .i64 (1 : Int))) w1 rfl)
    have hR := fun w1 (h : Below w.heap.size w w1) => rightWrite_ok x w1 (hz.grown h) hs.vec
    simp only [hx] at hR
    have HR := Lib.hid hR
    clear hR hz hs
    obtain ⟨region, number, time, sreg, dp, dl, dc, session, key, value, gone, life⟩ := x
    simp only [WriteV.val] at *
    clear hx
    go_enter Try.func20, Try.ntmps20
    go_wp2_with (first
      | (go_at_call 43; refine (HR.out _ ((Below.refl _ _).alloc (Nat.le_refl _) _)).mono ?_; rintro e w3 ⟨rfl, hb⟩; have HB := Lib.hid (((Below.refl w.heap.size w).alloc (Nat.le_refl _) _).trans (hb.mono (by simp))); clear hb)
      | (go_at_call 37; refine (HA.out _).mono ?_; rintro e w4 ⟨r, rfl, hc, hb⟩))
    go_ret2
    exact ⟨HD.out _ _ hc, HB.out.trans (hb.mono HB.out.size)⟩
end Go.Proofs.Ytpmhfoleafjlbaa
