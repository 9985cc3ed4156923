/-
  BakeParses' contract. The conditions: the program's contracts.
-/
import Derived.Test.YtlgofepmdjlpgaaDoorPart18
import Derived.Test.YtlgofepmdjlpgaaDoorBakeRefParse
namespace Go.Proofs.YtlgofepmdjlpgaaDoor
open Go.RowKit TextNat BakeMath

theorem zero_val : zeroK.val = .agg #[.string ⟨#[]⟩, .string ⟨#[]⟩, .string ⟨#[]⟩, .int .i64 0, .bool false, .bool false, .int .i64 0] := rfl
set_option maxRecDepth 100000 in
set_option maxHeartbeats 8000000 in
theorem parses_true {T : World → Prop} (hU : Up T) (hW : WriteOk T) (hP : ParseOk T) (s : ByteArray) (w : World) (hT : T w) :
    Calls Tryd.prog 4 #[.string s] w fun e w' => e = .returned (.bool true) ∧ Below w.heap.size w w' := by
  have HA := Lib.hid (awake_true hU hW hP w hT)
  have HP := Lib.hid hP
  have HU := Lib.hid hU
  have HT := Lib.hid hT
  clear hP hW hU hT
  go_enter Tryd.func4, Tryd.ntmps4
  go_wp2_with fail
  refine HA.out.mono ?_
  rintro e w1 ⟨rfl, hb⟩
  have HB := Lib.hid hb
  clear HA hb
  by_cases hs : 5000 < s.size
  · have t1 : decide ((5000 : Int) < (s.size : Int)) = true := decide_eq_true (by omega)
    have t1' : decide (5000 < s.size) = true := decide_eq_true hs
    clear hs
    go_wp2
    go_ret
    exact ⟨rfl, HB.out⟩
  have t1 : decide ((5000 : Int) < (s.size : Int)) = false := decide_eq_false (by omega)
  have t1' : decide (5000 < s.size) = false := decide_eq_false hs
  have HS := Lib.hid (show s.size ≤ 5000 by omega)
  clear hs
  go_wp2_with fail
  refine (HP.out s _ (HU.out _ _ HT.out HB.out) (by have := HS.out; omega)).mono ?_
  rintro e w2 ⟨h2, hb⟩
  replace HB := Lib.hid (HB.out.trans (hb.mono HB.out.size))
  clear hb
  unfold ParseIs at h2
  cases hp : parseF (nats s) with
  | none =>
    rw [hp] at h2
    obtain ⟨r, rfl, hx⟩ := h2
    obtain ⟨Tx, u, rfl⟩ := hx.iface
    have HPr := Lib.hid hp
    rw [zero_val]
    have hb : Below w2.heap.size w2 (w2.alloc (.cells #[.string ⟨#[]⟩, .string ⟨#[]⟩, .string ⟨#[]⟩, .int .i64 0, .bool false, .bool false, .int .i64 0] 23)) := (Below.refl _ _).alloc (Nat.le_refl _) _
    have HE := Lib.hid (hx.below hb)
    have HC := Lib.hid (show Lies (w2.alloc (.cells #[.string ⟨#[]⟩, .string ⟨#[]⟩, .string ⟨#[]⟩, .int .i64 0, .bool false, .bool false, .int .i64 0] 23)) w2.heap.size [.string ⟨#[]⟩, .string ⟨#[]⟩, .string ⟨#[]⟩, .int .i64 0, .bool false, .bool false, .int .i64 0] 23 from Lies.new w2 _ _)
    replace HB := Lib.hid (HB.out.trans (hb.mono HB.out.size))
    clear hx hp hb
    go_wp2_with fail
    refine (refParse14 s _ (by have := HS.out; omega)).mono ?_
    rintro e w3 ⟨h3, hb⟩
    unfold RefParseIs at h3
    rw [HPr.out] at h3
    subst h3
    rw [zero_val]
    have hb2 : Below w3.heap.size w3 (w3.alloc (.cells #[.string ⟨#[]⟩, .string ⟨#[]⟩, .string ⟨#[]⟩, .int .i64 0, .bool false, .bool false, .int .i64 0] 30)) := (Below.refl _ _).alloc (Nat.le_refl _) _
    replace HE := Lib.hid ((HE.out.below hb).below hb2)
    replace HC := Lib.hid ((HC.out.below hb).below hb2)
    replace HB := Lib.hid ((HB.out.trans (hb.mono HB.out.size)).trans (hb2.mono (HB.out.trans (hb.mono HB.out.size)).size))
    clear hb hb2
    go_wp2_with fail
    refine (is_err HE.out 2).mono ?_
    rintro e w4 ⟨rfl, hw⟩
    rw [hw]
    clear hw
    have c0 := HC.out.cell (i := 0) rfl; have c1 := HC.out.cell (i := 1) rfl; have c2 := HC.out.cell (i := 2) rfl; have c3 := HC.out.cell (i := 3) rfl; have c4 := HC.out.cell (i := 4) rfl; have c5 := HC.out.cell (i := 5) rfl; have c6 := HC.out.cell (i := 6) rfl
    have q := fun w => eql_same zeroK w
    rw [zero_val] at q
    go_wp2
    go_ret
    exact ⟨rfl, HB.out⟩
  | some c =>
    rw [hp] at h2
    simp only at h2
    subst h2
    have HPr := Lib.hid hp
    have q := fun w => eql_same (CookieV.of c) w
    unfold CookieV.val CookieV.of at q ⊢
    simp only at q ⊢
    obtain ⟨n, v, p, a, se, ht, si⟩ := c
    simp only at q ⊢
    have hb : Below w2.heap.size w2 (w2.alloc (.cells #[.string (txt n), .string (txt v), .string (txt p), .int .i64 a, .bool se, .bool ht, .int .i64 si] 23)) := (Below.refl _ _).alloc (Nat.le_refl _) _
    have HC := Lib.hid (show Lies (w2.alloc (.cells #[.string (txt n), .string (txt v), .string (txt p), .int .i64 a, .bool se, .bool ht, .int .i64 si] 23)) w2.heap.size [.string (txt n), .string (txt v), .string (txt p), .int .i64 a, .bool se, .bool ht, .int .i64 si] 23 from Lies.new w2 _ _)
    replace HB := Lib.hid (HB.out.trans (hb.mono HB.out.size))
    clear hp hb
    go_wp2_with fail
    refine (refParse14 s _ (by have := HS.out; omega)).mono ?_
    rintro e w3 ⟨h3, hb⟩
    unfold RefParseIs at h3
    rw [HPr.out] at h3
    simp only [CookieV.val, CookieV.of] at h3
    subst h3
    have hb2 : Below w3.heap.size w3 (w3.alloc (.cells #[.string (txt n), .string (txt v), .string (txt p), .int .i64 a, .bool se, .bool ht, .int .i64 si] 30)) := (Below.refl _ _).alloc (Nat.le_refl _) _
    have HD := Lib.hid (show Lies (w3.alloc (.cells #[.string (txt n), .string (txt v), .string (txt p), .int .i64 a, .bool se, .bool ht, .int .i64 si] 30)) w3.heap.size [.string (txt n), .string (txt v), .string (txt p), .int .i64 a, .bool se, .bool ht, .int .i64 si] 30 from Lies.new w3 _ _)
    replace HC := Lib.hid ((HC.out.below hb).below hb2)
    replace HB := Lib.hid ((HB.out.trans (hb.mono HB.out.size)).trans (hb2.mono (HB.out.trans (hb.mono HB.out.size)).size))
    clear hb hb2
    have c0 := HC.out.cell (i := 0) rfl; have c1 := HC.out.cell (i := 1) rfl; have c2 := HC.out.cell (i := 2) rfl; have c3 := HC.out.cell (i := 3) rfl; have c4 := HC.out.cell (i := 4) rfl; have c5 := HC.out.cell (i := 5) rfl; have c6 := HC.out.cell (i := 6) rfl
    have d0 := HD.out.cell (i := 0) rfl; have d1 := HD.out.cell (i := 1) rfl; have d2 := HD.out.cell (i := 2) rfl; have d3 := HD.out.cell (i := 3) rfl; have d4 := HD.out.cell (i := 4) rfl; have d5 := HD.out.cell (i := 5) rfl; have d6 := HD.out.cell (i := 6) rfl
    go_wp2
    go_ret
    exact ⟨rfl, HB.out⟩
end Go.Proofs.YtlgofepmdjlpgaaDoor
