/-
  TokenReads' contract. The conditions: the program's contracts; mac's table.
-/
import Derived.Test.YtajhegjemhegiaaGreatDoorPart21
import Derived.Test.YtajhegjemhegiaaGreatDoorTokenRefRead
import Derived.Test.YtajhegjemhegiaaGreatDoorPart38
import Derived.Test.YtajhegjemhegiaaGreatDoorPart27
namespace Go.Proofs.YtajhegjemhegiaaGreatDoor
open Go.RowKit TextNat TokenMath

def nilCV : ClaimsV := ⟨⟨#[]⟩, ⟨#[]⟩, 0, 0, 0, none, [], 0⟩
theorem ints_nil (w : World) (p : Option Addr) : Ints w p [] := fun i z hz => by simp at hz
theorem same_read (v : WireMath.ClaimsT) (p q : Option Addr) (a b : Nat) : sameC (readCV v p a) (readCV v q b) = true := by
  unfold sameC readCV
  simp
theorem same_nil : sameC nilCV nilCV = true := by
  unfold sameC
  simp
set_option maxRecDepth 100000 in
set_option maxHeartbeats 8000000 in
theorem reads_true {R : Rng} (hN : RNewOk R) (hM : MintOk R) (hQ : ReadTOk R) (c : Int) (s : ByteArray) (w : World) (hP : Parts w) (hc : I64 c) :
    Calls Tryz.prog 4 #[.int .i64 c, .string s] w fun e w' => e = .returned (.bool true) ∧ Below w.heap.size w w' := by
  have HA := Lib.hid (awake_true hN hM hQ w hP)
  have HNc := Lib.hid (fun w1 => hN ⟨#[109]⟩ c w1 (by decide) hc)
  have HP := Lib.hid hP
  have HQ := Lib.hid hQ
  clear hN hM hQ hP hc
  go_enter Tryz.func4, Tryz.ntmps4
  go_wp2_with fail
  refine HA.out.mono ?_
  rintro e w1 ⟨rfl, hb⟩
  have HB := Lib.hid hb
  clear hb HA
  go_wp2_with fail
  refine (HNc.out _).mono ?_
  rintro e w2 ⟨h1, hb⟩
  replace HB := Lib.hid (HB.out.trans (hb.mono HB.out.size))
  clear hb HNc
  by_cases hr : rightB ⟨#[109]⟩ c = true
  · rw [if_pos hr] at h1
    obtain ⟨b, rfl, h1⟩ := h1
    have HR := Lib.hid hr
    have HH := Lib.hid h1
    clear hr h1
    by_cases hs : s.size ≤ 5000
    · have HS := Lib.hid hs
      have t1 : decide ((5000 : Int) < (s.size : Int)) = false := decide_eq_false (by omega)
      have t2 : ¬ ((5000 : Int) < (s.size : Int)) := by omega
      clear hs
      go_wp2_with fail
      refine (HasR.readT HQ.out HH.out HR.out (HP.out.grown HB.out) s (by have := HS.out; omega)).mono ?_
      rintro e w3 ⟨h3, hb⟩
      replace HB := Lib.hid (HB.out.trans (hb.mono HB.out.size))
      clear hb HH
      unfold ReadTIs at h3
      have HRf := Lib.hid (fun w1 => refRead12 ⟨#[109]⟩ c s w1 (by decide) ⟨(right_bounds HR.out).1, (right_bounds HR.out).2.1⟩ (by have := HS.out; omega))
      cases hd : readF (aliveN c) (nats ⟨#[109]⟩) (nats s) with
      | none =>
        rw [hd] at h3
        obtain ⟨r, rfl, hx⟩ := h3
        obtain ⟨T, u, rfl⟩ := hx.iface
        have HE := Lib.hid hx
        have HD := Lib.hid hd
        clear hx hd
        unfold zeroC
        go_wp2_with fail
        have hb : Below w3.heap.size w3 (w3.alloc (.cells #[.string ⟨#[]⟩, .string ⟨#[]⟩, .int .i64 0, .int .i64 0, .int .i64 0, .slice none 0 0] 25)) := (Below.refl _ _).alloc (Nat.le_refl _) _
        have HRow := Lib.hid (show Row (w3.alloc (.cells #[.string ⟨#[]⟩, .string ⟨#[]⟩, .int .i64 0, .int .i64 0, .int .i64 0, .slice none 0 0] 25)) w3.heap.size zerosC 25 from Row.new w3 zerosC _)
        replace HE := Lib.hid (HE.out.below hb)
        replace HB := Lib.hid (HB.out.trans (hb.mono HB.out.size))
        clear hb
        refine (HRf.out _).mono ?_
        rintro e w4 ⟨h4, hb⟩
        unfold RefReadIs at h4
        rw [HD.out] at h4
        subst h4
        unfold zeroC
        replace HRow := Lib.hid (HRow.out.below hb)
        replace HE := Lib.hid (HE.out.below hb)
        replace HB := Lib.hid (HB.out.trans (hb.mono HB.out.size))
        clear hb
        have hb : Below w4.heap.size w4 (w4.alloc (.cells #[.string ⟨#[]⟩, .string ⟨#[]⟩, .int .i64 0, .int .i64 0, .int .i64 0, .slice none 0 0] 25)) := (Below.refl _ _).alloc (Nat.le_refl _) _
        replace HRow := Lib.hid (HRow.out.below hb)
        replace HE := Lib.hid (HE.out.below hb)
        replace HB := Lib.hid (HB.out.trans (hb.mono HB.out.size))
        clear hb
        go_wp2_with fail
        refine (is_err HE.out 9).mono ?_
        rintro e w5 ⟨rfl, hw⟩
        rw [hw]
        clear hw
        have c0 := HRow.out.cell (i := 0) rfl; have c1 := HRow.out.cell (i := 1) rfl; have c2 := HRow.out.cell (i := 2) rfl; have c3 := HRow.out.cell (i := 3) rfl; have c4 := HRow.out.cell (i := 4) rfl; have c5 := HRow.out.cell (i := 5) rfl
        have HSm := Lib.hid (fun w1 => sameClaims_ok nilCV nilCV w1 (ints_nil _ _) (ints_nil _ _) (by decide) (by decide))
        rw [same_nil] at HSm
        go_wp2_with fail
        refine (HSm.out _).mono ?_
        rintro e w6 ⟨rfl, hb⟩
        replace HB := Lib.hid (HB.out.trans (hb.mono HB.out.size))
        clear hb c0 c1 c2 c3 c4 c5
        go_wp2
        go_ret
        exact ⟨rfl, HB.out⟩
      | some v =>
        rw [hd] at h3
        obtain ⟨dp, dc, rfl, hz, _⟩ := h3
        obtain ⟨q1, _, _, _⟩ := readF_iff.1 hd
        have HF1 := Lib.hid (fun p k => few_read q1 p k)
        have HSm := Lib.hid (fun p q a b => same_read v p q a b)
        have HD := Lib.hid hd
        obtain ⟨v1, v2, v3, v4, v5, v6⟩ := v
        have HLn := Lib.hid (show (v6.map Int.ofNat).length = v6.length from List.length_map ..)
        have HVal := Lib.hid (fun p k => show (readCV (v1, v2, v3, v4, v5, v6) p k).val = .agg #[.string (txt v1), .string (txt v2), .int .i64 (v3 : Int), .int .i64 (v4 : Int), .int .i64 (v5 : Int), .slice p v6.length k] by simp only [readCV, ClaimsV.val, HLn.out])
        rw [HVal.out]
        have HZ := Lib.hid (show Ints w3 dp (v6.map Int.ofNat) from hz)
        clear hd hz q1
        go_wp2_with fail
        have hb : Below w3.heap.size w3 (w3.alloc (.cells #[.string (txt v1), .string (txt v2), .int .i64 (v3 : Int), .int .i64 (v4 : Int), .int .i64 (v5 : Int), .slice dp v6.length dc] 25)) := (Below.refl _ _).alloc (Nat.le_refl _) _
        have HRow := Lib.hid (show Row (w3.alloc (.cells #[.string (txt v1), .string (txt v2), .int .i64 (v3 : Int), .int .i64 (v4 : Int), .int .i64 (v5 : Int), .slice dp v6.length dc] 25)) w3.heap.size [.string (txt v1), .string (txt v2), .int .i64 (v3 : Int), .int .i64 (v4 : Int), .int .i64 (v5 : Int), .slice dp v6.length dc] 25 from Row.new w3 _ _)
        replace HZ := Lib.hid (HZ.out.grown hb)
        replace HB := Lib.hid (HB.out.trans (hb.mono HB.out.size))
        clear hb
        refine (HRf.out _).mono ?_
        rintro e w4 ⟨h4, hb⟩
        unfold RefReadIs at h4
        rw [HD.out] at h4
        obtain ⟨ep, ec, rfl, hz2⟩ := h4
        rw [HVal.out]
        replace HRow := Lib.hid (HRow.out.below hb)
        replace HZ := Lib.hid (HZ.out.grown hb)
        replace HB := Lib.hid (HB.out.trans (hb.mono HB.out.size))
        have HZ2 := Lib.hid (show Ints w4 ep (v6.map Int.ofNat) from hz2)
        clear hb hz2
        have hb : Below w4.heap.size w4 (w4.alloc (.cells #[.string (txt v1), .string (txt v2), .int .i64 (v3 : Int), .int .i64 (v4 : Int), .int .i64 (v5 : Int), .slice ep v6.length ec] 25)) := (Below.refl _ _).alloc (Nat.le_refl _) _
        have HRow2 := Lib.hid (show Row (w4.alloc (.cells #[.string (txt v1), .string (txt v2), .int .i64 (v3 : Int), .int .i64 (v4 : Int), .int .i64 (v5 : Int), .slice ep v6.length ec] 25)) w4.heap.size [.string (txt v1), .string (txt v2), .int .i64 (v3 : Int), .int .i64 (v4 : Int), .int .i64 (v5 : Int), .slice ep v6.length ec] 25 from Row.new w4 _ _)
        replace HRow := Lib.hid (HRow.out.below hb)
        replace HZ := Lib.hid (HZ.out.grown hb)
        replace HZ2 := Lib.hid (HZ2.out.grown hb)
        replace HB := Lib.hid (HB.out.trans (hb.mono HB.out.size))
        clear hb
        have c0 := HRow.out.cell (i := 0) rfl; have c1 := HRow.out.cell (i := 1) rfl; have c2 := HRow.out.cell (i := 2) rfl; have c3 := HRow.out.cell (i := 3) rfl; have c4 := HRow.out.cell (i := 4) rfl; have c5 := HRow.out.cell (i := 5) rfl
        have d0 := HRow2.out.cell (i := 0) rfl; have d1 := HRow2.out.cell (i := 1) rfl; have d2 := HRow2.out.cell (i := 2) rfl; have d3 := HRow2.out.cell (i := 3) rfl; have d4 := HRow2.out.cell (i := 4) rfl; have d5 := HRow2.out.cell (i := 5) rfl
        have HSc := Lib.hid (sameClaims_ok (readCV (v1, v2, v3, v4, v5, v6) dp dc) (readCV (v1, v2, v3, v4, v5, v6) ep ec) _ HZ.out HZ2.out (HF1.out dp dc).small.vec (HF1.out ep ec).small.vec)
        rw [HSm.out, HVal.out, HVal.out] at HSc
        go_wp2_with fail
        refine HSc.out.mono ?_
        rintro e w6 ⟨rfl, hb⟩
        replace HB := Lib.hid (HB.out.trans (hb.mono HB.out.size))
        clear hb c0 c1 c2 c3 c4 c5 d0 d1 d2 d3 d4 d5
        go_wp2
        go_ret
        exact ⟨rfl, HB.out⟩
    · have t1 : decide ((5000 : Int) < (s.size : Int)) = true := decide_eq_true (by omega)
      have t2 : (5000 : Int) < (s.size : Int) := by omega
      clear hs
      go_wp2
      go_ret
      exact ⟨rfl, HB.out⟩
  · rw [if_neg hr] at h1
    obtain ⟨x, rfl, hx⟩ := h1
    obtain ⟨T, u, rfl⟩ := hx.iface
    clear hx hr
    go_wp2
    go_ret
    exact ⟨rfl, HB.out⟩
end Go.Proofs.YtajhegjemhegiaaGreatDoor
