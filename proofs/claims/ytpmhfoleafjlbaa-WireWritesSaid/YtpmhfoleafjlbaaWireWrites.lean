/-
  The contract of chapter 5's law WireWrites: of any write it answers true; old memory is as it was. The conditions: the write's vector lies where it is said to.
-/
import Derived.Test.YtpmhfoleafjlbaaWireUnlike
import Derived.Test.YtpmhfoleafjlbaaWireWritten
import Derived.Test.YtpmhfoleafjlbaaRefClaimsBytes
namespace Go.Proofs.Ytpmhfoleafjlbaa
open Go.RowKit TextNat

theorem dec_back {x : WriteV} (h : RightIs x) : decW (nats (txt (WireMath.writeBytesT x.t))) = some x.t := by
  rw [nats_txt _ (write_lt h)]
  exact (decW_iff (write_lt h) x.t).2 ⟨right_t h, rfl⟩
theorem read_back {x : WriteV} (h : RightIs x) (dp : Option Addr) (dc : Nat) : readV x.t dp dc = ⟨x.region, x.number, x.time, x.sreg, dp, x.dl, dc, x.session, x.key, x.value, x.gone, x.life⟩ := by
  obtain ⟨p1, p2, p3, p4, p5, p6, p7, p8, p9, p10⟩ := h
  have hd : (x.dl.map Int.toNat).map Int.ofNat = x.dl := map_back (trimmed_pos p5)
  have e1 : txt (nats x.session) = x.session := txt_nats _
  have e2 : txt (nats x.key) = x.key := txt_nats _
  have e3 : txt (nats x.value) = x.value := txt_nats _
  have q1 : ((x.region.toNat : Nat) : Int) = x.region := Int.toNat_of_nonneg (by omega)
  have q2 : ((x.number.toNat : Nat) : Int) = x.number := Int.toNat_of_nonneg (by omega)
  have q3 : ((x.time.toNat : Nat) : Int) = x.time := Int.toNat_of_nonneg (by omega)
  have q4 : ((x.life.toNat : Nat) : Int) = x.life := Int.toNat_of_nonneg (by omega)
  show WriteV.mk ((x.region.toNat : Nat) : Int) ((x.number.toNat : Nat) : Int) ((x.time.toNat : Nat) : Int) ((x.region.toNat : Nat) : Int) dp ((x.dl.map Int.toNat).map Int.ofNat) dc (txt (nats x.session)) (txt (nats x.key)) (txt (nats x.value)) x.gone ((x.life.toNat : Nat) : Int) = _
  rw [q1, q2, q3, q4, hd, e1, e2, e3, p4]
theorem encIs_chain {w : World} {x : WriteV} {e : Ending} (h : EncIs w x e) (hr : x.right = false) : ∃ r, e = .returned (.tuple #[.string ⟨#[]⟩, r]) ∧ Chain w.heap.size w [(⟨#[119, 105, 114, 101]⟩, (0 : Int))] (.iface 51 (.int .i64 (1 : Int))) r := by
  unfold EncIs at h
  rw [if_neg (by rw [hr]; decide)] at h
  exact h
set_option maxRecDepth 100000 in
set_option maxHeartbeats 4000000 in
theorem writes_true (x : WriteV) (w : World) (hx : Ints w x.dp x.dl) (sx : x.small) :
    Calls Try.prog 4 #[x.val] w fun e w' => e = .returned (.bool true) ∧ Below w.heap.size w w' := by
  have HA := Lib.hid (fun w1 => awake_true w1)
  have HEn := Lib.hid (fun w1 (h : Below w.heap.size w w1) => encWrite_ok x w1 (hx.grown h) sx)
  have HRi := Lib.hid (fun w1 (h : Below w.heap.size w w1) => refRightWrite x w1 (hx.grown h) sx.vec)
  cases hr : x.right with
  | false =>
    simp only [hr] at HRi
    have HE := Lib.hid (fun w1 e (h : EncIs w1 x e) => encIs_chain h hr)
    obtain ⟨r1, n1, t1, s1, dp1, dl1, dc1, se1, k1, v1, g1, l1⟩ := x
    simp only [WriteV.val] at *
    clear hx sx
    obtain ⟨W, hW⟩ : ∃ W, W = w.alloc (.cells #[.int .i64 r1, .int .i64 n1, .int .i64 t1, .int .i64 s1, .slice dp1 dl1.length dc1, .string se1, .string k1, .string v1, .bool g1, .int .i64 l1] 47) := ⟨_, rfl⟩
    have hWb : Below w.heap.size w W := by rw [hW]; exact (Below.refl _ _).alloc (Nat.le_refl _) _
    have hRx : Row W w.heap.size [.int .i64 r1, .int .i64 n1, .int .i64 t1, .int .i64 s1, .slice dp1 dl1.length dc1, .string se1, .string k1, .string v1, .bool g1, .int .i64 l1] 47 := by rw [hW]; exact Row.new w _ _
    have HW := Lib.hid hW
    have HWb := Lib.hid hWb
    have HRx := Lib.hid hRx
    clear hW hWb hRx
    go_enter Try.func4, Try.ntmps4
    go_wp2_with fail
    rw [← HW.out]
    refine (HA.out _).mono ?_
    rintro e w2 ⟨rfl, hb2⟩
    replace HRx := Lib.hid (HRx.out.below hb2)
    have HB := Lib.hid (HWb.out.trans (hb2.mono HWb.out.size))
    clear hb2
    have c0 := HRx.out.cell (i := 0) rfl; have c1 := HRx.out.cell (i := 1) rfl; have c2 := HRx.out.cell (i := 2) rfl; have c3 := HRx.out.cell (i := 3) rfl; have c4 := HRx.out.cell (i := 4) rfl; have c5 := HRx.out.cell (i := 5) rfl; have c6 := HRx.out.cell (i := 6) rfl; have c7 := HRx.out.cell (i := 7) rfl; have c8 := HRx.out.cell (i := 8) rfl; have c9 := HRx.out.cell (i := 9) rfl
    go_wp2_with (first
      | (go_at_call 20; refine (HEn.out _ HB.out).mono ?_; rintro e w3 ⟨he, hb3⟩; obtain ⟨rr, rfl, hch⟩ := HE.out _ _ he; replace HRx := Lib.hid (HRx.out.below hb3); replace HB := Lib.hid (HB.out.trans (hb3.mono HB.out.size)); have HC := Lib.hid hch; clear he hb3 hch c0 c1 c2 c3 c4 c5 c6 c7 c8 c9; have c0 := HRx.out.cell (i := 0) rfl; have c1 := HRx.out.cell (i := 1) rfl; have c2 := HRx.out.cell (i := 2) rfl; have c3 := HRx.out.cell (i := 3) rfl; have c4 := HRx.out.cell (i := 4) rfl; have c5 := HRx.out.cell (i := 5) rfl; have c6 := HRx.out.cell (i := 6) rfl; have c7 := HRx.out.cell (i := 7) rfl; have c8 := HRx.out.cell (i := 8) rfl; have c9 := HRx.out.cell (i := 9) rfl)
      | (go_at_call 21; refine (HRi.out _ HB.out).mono ?_; rintro e w4 ⟨rfl, hb4⟩; replace HRx := Lib.hid (HRx.out.below hb4); replace HB := Lib.hid (HB.out.trans (hb4.mono HB.out.size)); replace HC := Lib.hid (Chain.mono hb4 hb4.size HC.out); clear hb4 c0 c1 c2 c3 c4 c5 c6 c7 c8 c9; have c0 := HRx.out.cell (i := 0) rfl; have c1 := HRx.out.cell (i := 1) rfl; have c2 := HRx.out.cell (i := 2) rfl; have c3 := HRx.out.cell (i := 3) rfl; have c4 := HRx.out.cell (i := 4) rfl; have c5 := HRx.out.cell (i := 5) rfl; have c6 := HRx.out.cell (i := 6) rfl; have c7 := HRx.out.cell (i := 7) rfl; have c8 := HRx.out.cell (i := 8) rfl; have c9 := HRx.out.cell (i := 9) rfl)
      | (go_at_call 22; refine (Is_chain _ _ 1 1 rr _ HC.out).mono ?_; rintro e w7 ⟨rfl, rfl⟩))
    all_goals
      go_ret
      exact ⟨rfl, HB.out⟩
  | true =>
    have HX := Lib.hid ((right_iff x).1 hr)
    simp only [hr] at HRi
    obtain ⟨B, hB⟩ : ∃ B, B = txt (WireMath.writeBytesT x.t) := ⟨_, rfl⟩
    have HBs := Lib.hid hB
    have hBl : B.size ≤ 1000 := by rw [hB, ← nats_len, nats_txt _ (write_lt HX.out)]; exact WireMath.write_small (right_t HX.out)
    have HE := Lib.hid (fun w1 e (h : EncIs w1 x e) => (show e = .returned (.tuple #[.string B, .nilIface]) by rw [hB]; exact encIs_true h hr))
    have HDc := Lib.hid (fun w1 => decWrite_ok B w1 (by omega))
    have HDi := Lib.hid (fun w1 e (h : DecIs w1 (nats B) e) => (show ∃ dp dc, e = .returned (.tuple #[.agg #[.int .i64 x.region, .int .i64 x.number, .int .i64 x.time, .int .i64 x.sreg, .slice dp x.dl.length dc, .string x.session, .string x.key, .string x.value, .bool x.gone, .int .i64 x.life], .nilIface]) ∧ Ints w1 dp x.dl by
      unfold DecIs at h
      rw [hB, dec_back HX.out] at h
      obtain ⟨dp, dc, h1, h2⟩ := h
      refine ⟨dp, dc, ?_, ?_⟩
      · rw [h1, read_back HX.out]; rfl
      · have := map_back (trimmed_pos HX.out.deps)
        rw [← this]
        exact h2))
    have HWb2 := Lib.hid (fun w1 (h : Below w.heap.size w w1) => (refWriteBytes x w1 (hx.grown h) ⟨by have := HX.out.session; omega, by have := HX.out.key; omega, by have := HX.out.value; omega⟩ (by have := HX.out.deps; rw [trimmed_whole] at this; simp only [Bool.and_eq_true, decide_eq_true_eq] at this; omega)).mono (R' := fun e w' => e = .returned (.string B) ∧ Below w1.heap.size w1 w') (by
      rintro e w' ⟨rfl, hb⟩
      exact ⟨by rw [written_write HX.out, putText_none, hB], hb⟩))
    have HSm := Lib.hid (fun w1 (h : Below w.heap.size w w1) dp dc (hz : Ints w1 dp x.dl) => (sameWrite_ok ⟨x.region, x.number, x.time, x.sreg, dp, x.dl, dc, x.session, x.key, x.value, x.gone, x.life⟩ x w1 hz (hx.grown h) sx.vec sx.vec).mono (R' := fun e w' => e = .returned (.bool true) ∧ Below w1.heap.size w1 w') (by
      rintro e w' ⟨rfl, hb⟩
      exact ⟨by rw [show sameW ⟨x.region, x.number, x.time, x.sreg, dp, x.dl, dc, x.session, x.key, x.value, x.gone, x.life⟩ x = true from by unfold sameW; rw [decide_eq_true_eq]; exact ⟨rfl, rfl, rfl, rfl, rfl, rfl, rfl, rfl, rfl, rfl⟩], hb⟩))
    clear hB hBl
    obtain ⟨r1, n1, t1, s1, dp1, dl1, dc1, se1, k1, v1, g1, l1⟩ := x
    simp only [WriteV.val] at *
    clear hx sx
    obtain ⟨W, hW⟩ : ∃ W, W = w.alloc (.cells #[.int .i64 r1, .int .i64 n1, .int .i64 t1, .int .i64 s1, .slice dp1 dl1.length dc1, .string se1, .string k1, .string v1, .bool g1, .int .i64 l1] 47) := ⟨_, rfl⟩
    have hWb : Below w.heap.size w W := by rw [hW]; exact (Below.refl _ _).alloc (Nat.le_refl _) _
    have hRx : Row W w.heap.size [.int .i64 r1, .int .i64 n1, .int .i64 t1, .int .i64 s1, .slice dp1 dl1.length dc1, .string se1, .string k1, .string v1, .bool g1, .int .i64 l1] 47 := by rw [hW]; exact Row.new w _ _
    have HW := Lib.hid hW
    have HWb := Lib.hid hWb
    have HRx := Lib.hid hRx
    clear hW hWb hRx
    go_enter Try.func4, Try.ntmps4
    go_wp2_with fail
    rw [← HW.out]
    refine (HA.out _).mono ?_
    rintro e w2 ⟨rfl, hb2⟩
    replace HRx := Lib.hid (HRx.out.below hb2)
    have HB := Lib.hid (HWb.out.trans (hb2.mono HWb.out.size))
    clear hb2
    have c0 := HRx.out.cell (i := 0) rfl; have c1 := HRx.out.cell (i := 1) rfl; have c2 := HRx.out.cell (i := 2) rfl; have c3 := HRx.out.cell (i := 3) rfl; have c4 := HRx.out.cell (i := 4) rfl; have c5 := HRx.out.cell (i := 5) rfl; have c6 := HRx.out.cell (i := 6) rfl; have c7 := HRx.out.cell (i := 7) rfl; have c8 := HRx.out.cell (i := 8) rfl; have c9 := HRx.out.cell (i := 9) rfl
    go_wp2_with (first
      | (go_at_call 20; refine (HEn.out _ HB.out).mono ?_; rintro e w3 ⟨he, hb3⟩; obtain rfl := HE.out _ _ he; replace HRx := Lib.hid (HRx.out.below hb3); replace HB := Lib.hid (HB.out.trans (hb3.mono HB.out.size)); clear he hb3 c0 c1 c2 c3 c4 c5 c6 c7 c8 c9; have c0 := HRx.out.cell (i := 0) rfl; have c1 := HRx.out.cell (i := 1) rfl; have c2 := HRx.out.cell (i := 2) rfl; have c3 := HRx.out.cell (i := 3) rfl; have c4 := HRx.out.cell (i := 4) rfl; have c5 := HRx.out.cell (i := 5) rfl; have c6 := HRx.out.cell (i := 6) rfl; have c7 := HRx.out.cell (i := 7) rfl; have c8 := HRx.out.cell (i := 8) rfl; have c9 := HRx.out.cell (i := 9) rfl)
      | (go_at_call 21; refine (HRi.out _ HB.out).mono ?_; rintro e w4 ⟨rfl, hb4⟩; replace HRx := Lib.hid (HRx.out.below hb4); replace HB := Lib.hid (HB.out.trans (hb4.mono HB.out.size)); clear hb4 c0 c1 c2 c3 c4 c5 c6 c7 c8 c9; have c0 := HRx.out.cell (i := 0) rfl; have c1 := HRx.out.cell (i := 1) rfl; have c2 := HRx.out.cell (i := 2) rfl; have c3 := HRx.out.cell (i := 3) rfl; have c4 := HRx.out.cell (i := 4) rfl; have c5 := HRx.out.cell (i := 5) rfl; have c6 := HRx.out.cell (i := 6) rfl; have c7 := HRx.out.cell (i := 7) rfl; have c8 := HRx.out.cell (i := 8) rfl; have c9 := HRx.out.cell (i := 9) rfl)
      | (go_at_call 23; refine (HDc.out _).mono ?_; rintro e w5 ⟨hdi, hb5⟩; obtain ⟨dp, dc, rfl, hz⟩ := HDi.out _ _ hdi; have hal : Below w5.heap.size w5 (w5.alloc (.cells #[.int .i64 r1, .int .i64 n1, .int .i64 t1, .int .i64 s1, .slice dp dl1.length dc, .string se1, .string k1, .string v1, .bool g1, .int .i64 l1] 47)) := (Below.refl _ _).alloc (Nat.le_refl _) _; have HRd : Hid (Row (w5.alloc (.cells #[.int .i64 r1, .int .i64 n1, .int .i64 t1, .int .i64 s1, .slice dp dl1.length dc, .string se1, .string k1, .string v1, .bool g1, .int .i64 l1] 47)) w5.heap.size [.int .i64 r1, .int .i64 n1, .int .i64 t1, .int .i64 s1, .slice dp dl1.length dc, .string se1, .string k1, .string v1, .bool g1, .int .i64 l1] 47) := Lib.hid (Row.new w5 _ _); have HW5 : Hid (w5.alloc (.cells #[.int .i64 r1, .int .i64 n1, .int .i64 t1, .int .i64 s1, .slice dp dl1.length dc, .string se1, .string k1, .string v1, .bool g1, .int .i64 l1] 47) = w5.alloc (.cells #[.int .i64 r1, .int .i64 n1, .int .i64 t1, .int .i64 s1, .slice dp dl1.length dc, .string se1, .string k1, .string v1, .bool g1, .int .i64 l1] 47)) := Lib.hid rfl; replace HRx := Lib.hid ((HRx.out.below hb5).below hal); replace HB := Lib.hid ((HB.out.trans (hb5.mono HB.out.size)).trans (hal.mono (HB.out.trans (hb5.mono HB.out.size)).size)); have HZ := Lib.hid (hz.grown hal); clear hdi hz hb5 hal c0 c1 c2 c3 c4 c5 c6 c7 c8 c9; have c0 := HRx.out.cell (i := 0) rfl; have c1 := HRx.out.cell (i := 1) rfl; have c2 := HRx.out.cell (i := 2) rfl; have c3 := HRx.out.cell (i := 3) rfl; have c4 := HRx.out.cell (i := 4) rfl; have c5 := HRx.out.cell (i := 5) rfl; have c6 := HRx.out.cell (i := 6) rfl; have c7 := HRx.out.cell (i := 7) rfl; have c8 := HRx.out.cell (i := 8) rfl; have c9 := HRx.out.cell (i := 9) rfl; have d0 := HRd.out.cell (i := 0) rfl; have d1 := HRd.out.cell (i := 1) rfl; have d2 := HRd.out.cell (i := 2) rfl; have d3 := HRd.out.cell (i := 3) rfl; have d4 := HRd.out.cell (i := 4) rfl; have d5 := HRd.out.cell (i := 5) rfl; have d6 := HRd.out.cell (i := 6) rfl; have d7 := HRd.out.cell (i := 7) rfl; have d8 := HRd.out.cell (i := 8) rfl; have d9 := HRd.out.cell (i := 9) rfl)
      | (go_at_call 24; refine (HWb2.out _ HB.out).mono ?_; rintro e w6 ⟨rfl, hb6⟩; replace HRx := Lib.hid (HRx.out.below hb6); replace HRd := Lib.hid (HRd.out.below hb6); replace HB := Lib.hid (HB.out.trans (hb6.mono HB.out.size)); replace HZ := Lib.hid (HZ.out.grown hb6); clear hb6 c0 c1 c2 c3 c4 c5 c6 c7 c8 c9 d0 d1 d2 d3 d4 d5 d6 d7 d8 d9; have c0 := HRx.out.cell (i := 0) rfl; have c1 := HRx.out.cell (i := 1) rfl; have c2 := HRx.out.cell (i := 2) rfl; have c3 := HRx.out.cell (i := 3) rfl; have c4 := HRx.out.cell (i := 4) rfl; have c5 := HRx.out.cell (i := 5) rfl; have c6 := HRx.out.cell (i := 6) rfl; have c7 := HRx.out.cell (i := 7) rfl; have c8 := HRx.out.cell (i := 8) rfl; have c9 := HRx.out.cell (i := 9) rfl; have d0 := HRd.out.cell (i := 0) rfl; have d1 := HRd.out.cell (i := 1) rfl; have d2 := HRd.out.cell (i := 2) rfl; have d3 := HRd.out.cell (i := 3) rfl; have d4 := HRd.out.cell (i := 4) rfl; have d5 := HRd.out.cell (i := 5) rfl; have d6 := HRd.out.cell (i := 6) rfl; have d7 := HRd.out.cell (i := 7) rfl; have d8 := HRd.out.cell (i := 8) rfl; have d9 := HRd.out.cell (i := 9) rfl)
      | (go_at_call 25; refine (HSm.out _ HB.out dp dc HZ.out).mono ?_; rintro e w7 ⟨rfl, hb7⟩; replace HB := Lib.hid (HB.out.trans (hb7.mono HB.out.size)); clear hb7))
    all_goals
      go_ret
      exact ⟨by first | rfl | simp, HB.out⟩
end Go.Proofs.Ytpmhfoleafjlbaa
