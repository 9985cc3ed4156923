/-
  The contract of chapter 5's law WireUnlike: of any two writes it answers true; old memory is as it was. The conditions: the writes' vectors lie where they are said to.
-/
import Derived.Test.YtpmhfoleafjlbaaWireReadsWrites
import Derived.Deep.Cut
namespace Go.Proofs.Ytpmhfoleafjlbaa
open Go.RowKit TextNat

theorem encIs_true {w : World} {x : WriteV} {e : Ending} (h : EncIs w x e) (hr : x.right = true) : e = .returned (.tuple #[.string (txt (WireMath.writeBytesT x.t)), .nilIface]) := by
  unfold EncIs at h
  rw [if_pos hr] at h
  exact h
theorem encIs_false {w : World} {x : WriteV} {e : Ending} (h : EncIs w x e) (hr : x.right = false) : ∃ T v, e = .returned (.tuple #[.string ⟨#[]⟩, .iface T v]) := by
  unfold EncIs at h
  rw [if_neg (by rw [hr]; decide)] at h
  obtain ⟨r, he, hc⟩ := h
  obtain ⟨T, v, rfl⟩ := hc.some
  exact ⟨T, v, he⟩
theorem toList_inj {s t : ByteArray} (h : s.toList = t.toList) : s = t := by
  rw [ByteArray.toList_eq, ByteArray.toList_eq] at h
  apply nats_inj
  unfold nats
  rw [h]
theorem write_lt {x : WriteV} (h : RightIs x) : ∀ b ∈ WireMath.writeBytesT x.t, b < 256 := by
  obtain ⟨h1, h2, h3, h4, h5, h6, h7, h8, h9, h10⟩ := h
  have hb := map_back (trimmed_pos h5)
  have a1 : x.region.toNat ≤ WireMath.big := by unfold WireMath.big; omega
  have a2 : x.number.toNat ≤ WireMath.big := by unfold WireMath.big; omega
  have a3 : x.time.toNat ≤ WireMath.big := by unfold WireMath.big; omega
  have a9 : x.life.toNat ≤ WireMath.big := by unfold WireMath.big; omega
  have b5 : (nats x.session).length ≤ 1000 := by rw [nats_len]; omega
  have b6 : (nats x.key).length ≤ 1000 := by rw [nats_len]; omega
  have b8 : (nats x.value).length ≤ 1000 := by rw [nats_len]; omega
  have d4 : WireMath.trimmed ((x.dl.map Int.toNat).map Int.ofNat) WireMath.big = true := by rw [hb]; exact h5
  have c7 : ∀ b ∈ WireMath.flagBytes x.gone, b < 256 := WireMath.num_lt _ (by split <;> decide)
  exact WireMath.mem_app (WireMath.num_bytes a1) (WireMath.mem_app (WireMath.num_bytes a2) (WireMath.mem_app (WireMath.num_bytes a3) (WireMath.mem_app (WireMath.vec_bytes d4) (WireMath.mem_app (WireMath.text_bytes b5 (nats_lt _)) (WireMath.mem_app (WireMath.text_bytes b6 (nats_lt _)) (WireMath.mem_app c7 (WireMath.mem_app (WireMath.text_bytes b8 (nats_lt _)) (WireMath.num_bytes a9))))))))
theorem same_bytes {x y : WriteV} (hx : RightIs x) (hy : RightIs y) (h : (txt (WireMath.writeBytesT x.t)).toList = (txt (WireMath.writeBytesT y.t)).toList) : sameW x y = true := by
  have h1 := congrArg nats (toList_inj h)
  rw [nats_txt _ (write_lt hx), nats_txt _ (write_lt hy)] at h1
  have k1 := (decW_iff (write_lt hx) x.t).2 ⟨right_t hx, rfl⟩
  have k2 := (decW_iff (write_lt hx) y.t).2 ⟨right_t hy, h1⟩
  rw [k1] at k2
  have ht := Option.some.inj k2
  unfold WriteV.t at ht
  simp only [Prod.mk.injEq] at ht
  obtain ⟨e1, e2, e3, e4, e5, e6, e7, e8, e9⟩ := ht
  obtain ⟨p1, p2, p3, p4, p5, p6, p7, p8, p9, p10⟩ := hx
  obtain ⟨q1, q2, q3, q4, q5, q6, q7, q8, q9, q10⟩ := hy
  have hd : x.dl = y.dl := by rw [← map_back (trimmed_pos p5), e4, map_back (trimmed_pos q5)]
  unfold sameW
  rw [decide_eq_true_eq]
  exact ⟨by omega, by omega, by omega, by omega, hd, by rw [nats_inj e5], by rw [nats_inj e6], by rw [nats_inj e8], e7, by omega⟩
theorem bytes_same {x y : WriteV} (h : sameW x y = true) : WireMath.writeBytesT x.t = WireMath.writeBytesT y.t := by
  unfold sameW at h
  rw [decide_eq_true_eq] at h
  obtain ⟨h1, h2, h3, h4, h5, h6, h7, h8, h9, h10⟩ := h
  unfold WriteV.t
  rw [h1, h2, h3, h5, toList_inj h6, toList_inj h7, toList_inj h8, h9, h10]
theorem two_of_three {i : Nat} {gk : Nat} (h : i + gk = 2) : (i = 0 ∧ gk = 2) ∨ (i = 1 ∧ gk = 1) ∨ (i = 2 ∧ gk = 0) := by omega
set_option maxRecDepth 100000 in
set_option maxHeartbeats 4000000 in
theorem unlike_true (x y : WriteV) (w : World) (hx : Ints w x.dp x.dl) (hy : Ints w y.dp y.dl) (sx : x.small) (sy : y.small) :
    Calls Try.prog 8 #[x.val, y.val] w fun e w' => e = .returned (.bool true) ∧ Below w.heap.size w w' := by
  have HA := Lib.hid (fun w1 => awake_true w1)
  have HEx := Lib.hid (fun w1 (h : Below w.heap.size w w1) => encWrite_ok x w1 (hx.grown h) sx)
  have HEy := Lib.hid (fun w1 (h : Below w.heap.size w w1) => encWrite_ok y w1 (hy.grown h) sy)
  have HSm := Lib.hid (fun w1 (h : Below w.heap.size w w1) => sameWrite_ok x y w1 (hx.grown h) (hy.grown h) sx.vec sy.vec)
  obtain ⟨r1, n1, t1, s1, dp1, dl1, dc1, se1, k1, v1, g1, l1⟩ := x
  obtain ⟨r2, n2, t2, s2, dp2, dl2, dc2, se2, k2, v2, g2, l2⟩ := y
  obtain ⟨W, hW⟩ : ∃ W, W = (w.alloc (.cells #[.int .i64 r1, .int .i64 n1, .int .i64 t1, .int .i64 s1, .slice dp1 dl1.length dc1, .string se1, .string k1, .string v1, .bool g1, .int .i64 l1] 47)).alloc (.cells #[.int .i64 r2, .int .i64 n2, .int .i64 t2, .int .i64 s2, .slice dp2 dl2.length dc2, .string se2, .string k2, .string v2, .bool g2, .int .i64 l2] 47) := ⟨_, rfl⟩
  have hWb : Below w.heap.size w W := by rw [hW]; exact ((Below.refl _ _).alloc (Nat.le_refl _) _).alloc (by simp) _
  have hRx : Row W w.heap.size [.int .i64 r1, .int .i64 n1, .int .i64 t1, .int .i64 s1, .slice dp1 dl1.length dc1, .string se1, .string k1, .string v1, .bool g1, .int .i64 l1] 47 := by rw [hW]; exact heap_alloc2_old w _ _
  have hRy : Row W (w.heap.size + 1) [.int .i64 r2, .int .i64 n2, .int .i64 t2, .int .i64 s2, .slice dp2 dl2.length dc2, .string se2, .string k2, .string v2, .bool g2, .int .i64 l2] 47 := by rw [hW]; exact heap_alloc2_new w _ _
  have HW := Lib.hid hW
  have HWb := Lib.hid hWb
  have HRx := Lib.hid hRx
  have HRy := Lib.hid hRy
  simp only [WriteV.val] at *
  clear hx hy sx sy hW hWb hRx hRy
  go_enter Try.func8, Try.ntmps8
  go_wp2_with fail
  rw [← HW.out]
  refine (HA.out _).mono ?_
  rintro e w2 ⟨rfl, hb2⟩
  replace HRx := Lib.hid (HRx.out.below hb2)
  replace HRy := Lib.hid (HRy.out.below hb2)
  have HB := Lib.hid (HWb.out.trans (hb2.mono HWb.out.size))
  clear hb2
  have c0 := HRx.out.cell (i := 0) rfl; have c1 := HRx.out.cell (i := 1) rfl; have c2 := HRx.out.cell (i := 2) rfl; have c3 := HRx.out.cell (i := 3) rfl; have c4 := HRx.out.cell (i := 4) rfl; have c5 := HRx.out.cell (i := 5) rfl; have c6 := HRx.out.cell (i := 6) rfl; have c7 := HRx.out.cell (i := 7) rfl; have c8 := HRx.out.cell (i := 8) rfl; have c9 := HRx.out.cell (i := 9) rfl
  have d0 := HRy.out.cell (i := 0) rfl; have d1 := HRy.out.cell (i := 1) rfl; have d2 := HRy.out.cell (i := 2) rfl; have d3 := HRy.out.cell (i := 3) rfl; have d4 := HRy.out.cell (i := 4) rfl; have d5 := HRy.out.cell (i := 5) rfl; have d6 := HRy.out.cell (i := 6) rfl; have d7 := HRy.out.cell (i := 7) rfl; have d8 := HRy.out.cell (i := 8) rfl; have d9 := HRy.out.cell (i := 9) rfl
  have HWb2 := Lib.hid (show Row (w2.alloc (.cells #[.int .i64 r1, .int .i64 n1, .int .i64 t1, .int .i64 s1, .slice dp1 dl1.length dc1, .string se1, .string k1, .string v1, .bool g1, .int .i64 l1, .int .i64 r2, .int .i64 n2, .int .i64 t2, .int .i64 s2, .slice dp2 dl2.length dc2, .string se2, .string k2, .string v2, .bool g2, .int .i64 l2] 47)) w2.heap.size [.int .i64 r1, .int .i64 n1, .int .i64 t1, .int .i64 s1, .slice dp1 dl1.length dc1, .string se1, .string k1, .string v1, .bool g1, .int .i64 l1, .int .i64 r2, .int .i64 n2, .int .i64 t2, .int .i64 s2, .slice dp2 dl2.length dc2, .string se2, .string k2, .string v2, .bool g2, .int .i64 l2] 47 from Row.new w2 _ _)
  have hal2 : Below w2.heap.size w2 (w2.alloc (.cells #[.int .i64 r1, .int .i64 n1, .int .i64 t1, .int .i64 s1, .slice dp1 dl1.length dc1, .string se1, .string k1, .string v1, .bool g1, .int .i64 l1, .int .i64 r2, .int .i64 n2, .int .i64 t2, .int .i64 s2, .slice dp2 dl2.length dc2, .string se2, .string k2, .string v2, .bool g2, .int .i64 l2] 47)) := (Below.refl _ _).alloc (Nat.le_refl _) _
  have HRx2 := Lib.hid (HRx.out.below hal2)
  have HRy2 := Lib.hid (HRy.out.below hal2)
  have HB2 := Lib.hid (HB.out.trans (hal2.mono HB.out.size))
  clear hal2
  go_wp2_with fail
  clear c0 c1 c2 c3 c4 c5 c6 c7 c8 c9 d0 d1 d2 d3 d4 d5 d6 d7 d8 d9
  go_loopg [17] 2 (fun gh s17 wx => ∃ i : Nat, i + gh = 2 ∧ s17 = .int .i64 (i : Int) ∧ Row wx w2.heap.size [.int .i64 r1, .int .i64 n1, .int .i64 t1, .int .i64 s1, .slice dp1 dl1.length dc1, .string se1, .string k1, .string v1, .bool g1, .int .i64 l1, .int .i64 r2, .int .i64 n2, .int .i64 t2, .int .i64 s2, .slice dp2 dl2.length dc2, .string se2, .string k2, .string v2, .bool g2, .int .i64 l2] 47 ∧ Row wx w.heap.size [.int .i64 r1, .int .i64 n1, .int .i64 t1, .int .i64 s1, .slice dp1 dl1.length dc1, .string se1, .string k1, .string v1, .bool g1, .int .i64 l1] 47 ∧ Row wx (w.heap.size + 1) [.int .i64 r2, .int .i64 n2, .int .i64 t2, .int .i64 s2, .slice dp2 dl2.length dc2, .string se2, .string k2, .string v2, .bool g2, .int .i64 l2] 47 ∧ Below w.heap.size w wx)
  case atStart => exact ⟨0, by omega, by go_num, HWb2.out, HRx2.out, HRy2.out, HB2.out⟩
  case round =>
    obtain ⟨i, hi, rfl, h20, hra, hrb, hbl⟩ := hrel
    rcases two_of_three hi with ⟨rfl, rfl⟩ | ⟨rfl, rfl⟩ | ⟨rfl, rfl⟩
    · skip
      have e0 := h20.cell (i := 0) rfl; have e1 := h20.cell (i := 1) rfl; have e2 := h20.cell (i := 2) rfl; have e3 := h20.cell (i := 3) rfl; have e4 := h20.cell (i := 4) rfl; have e5 := h20.cell (i := 5) rfl; have e6 := h20.cell (i := 6) rfl; have e7 := h20.cell (i := 7) rfl; have e8 := h20.cell (i := 8) rfl; have e9 := h20.cell (i := 9) rfl
      have hal : Below wr.heap.size wr (wr.alloc (.cells #[.int .i64 r1, .int .i64 n1, .int .i64 t1, .int .i64 s1, .slice dp1 dl1.length dc1, .string se1, .string k1, .string v1, .bool g1, .int .i64 l1] 47)) := (Below.refl _ _).alloc (Nat.le_refl _) _
      have hq : Row (wr.alloc (.cells #[.int .i64 r1, .int .i64 n1, .int .i64 t1, .int .i64 s1, .slice dp1 dl1.length dc1, .string se1, .string k1, .string v1, .bool g1, .int .i64 l1] 47)) wr.heap.size [.int .i64 r1, .int .i64 n1, .int .i64 t1, .int .i64 s1, .slice dp1 dl1.length dc1, .string se1, .string k1, .string v1, .bool g1, .int .i64 l1] 47 := Row.new wr _ _
      obtain ⟨W5, hW5⟩ : ∃ W5, W5 = wr.alloc (.cells #[.int .i64 r1, .int .i64 n1, .int .i64 t1, .int .i64 s1, .slice dp1 dl1.length dc1, .string se1, .string k1, .string v1, .bool g1, .int .i64 l1] 47) := ⟨_, rfl⟩
      rw [← hW5] at hal hq
      have H20 := Lib.hid (h20.below hal)
      have HA1 := Lib.hid (hra.below hal)
      have HB1 := Lib.hid (hrb.below hal)
      have HBl := Lib.hid (hbl.trans (hal.mono hbl.size))
      have HQ1 := Lib.hid hq
      have HW5 := Lib.hid hW5
      clear hal hq h20 hra hrb hbl hW5
      go_upto_region 6 with fail
      rw [← HW5.out]
      clear e0 e1 e2 e3 e4 e5 e6 e7 e8 e9 HW5
      have p4 := HQ1.out.cell (i := 4) rfl
      have p5 := HQ1.out.cell (i := 5) rfl
      have p6 := HQ1.out.cell (i := 6) rfl
      have p7 := HQ1.out.cell (i := 7) rfl
      go_wp2
      all_goals first
        | (go_ret; exact ⟨rfl, HBl.out⟩)
        | (go_roundg 1; (case measure => omega); (case rel => exact ⟨1, by omega, by go_num, H20.out, HA1.out, HB1.out, HBl.out⟩))
    · skip
      have e0 := h20.cell (i := 10) rfl; have e1 := h20.cell (i := 11) rfl; have e2 := h20.cell (i := 12) rfl; have e3 := h20.cell (i := 13) rfl; have e4 := h20.cell (i := 14) rfl; have e5 := h20.cell (i := 15) rfl; have e6 := h20.cell (i := 16) rfl; have e7 := h20.cell (i := 17) rfl; have e8 := h20.cell (i := 18) rfl; have e9 := h20.cell (i := 19) rfl
      have hal : Below wr.heap.size wr (wr.alloc (.cells #[.int .i64 r2, .int .i64 n2, .int .i64 t2, .int .i64 s2, .slice dp2 dl2.length dc2, .string se2, .string k2, .string v2, .bool g2, .int .i64 l2] 47)) := (Below.refl _ _).alloc (Nat.le_refl _) _
      have hq : Row (wr.alloc (.cells #[.int .i64 r2, .int .i64 n2, .int .i64 t2, .int .i64 s2, .slice dp2 dl2.length dc2, .string se2, .string k2, .string v2, .bool g2, .int .i64 l2] 47)) wr.heap.size [.int .i64 r2, .int .i64 n2, .int .i64 t2, .int .i64 s2, .slice dp2 dl2.length dc2, .string se2, .string k2, .string v2, .bool g2, .int .i64 l2] 47 := Row.new wr _ _
      obtain ⟨W5, hW5⟩ : ∃ W5, W5 = wr.alloc (.cells #[.int .i64 r2, .int .i64 n2, .int .i64 t2, .int .i64 s2, .slice dp2 dl2.length dc2, .string se2, .string k2, .string v2, .bool g2, .int .i64 l2] 47) := ⟨_, rfl⟩
      rw [← hW5] at hal hq
      have H20 := Lib.hid (h20.below hal)
      have HA1 := Lib.hid (hra.below hal)
      have HB1 := Lib.hid (hrb.below hal)
      have HBl := Lib.hid (hbl.trans (hal.mono hbl.size))
      have HQ1 := Lib.hid hq
      have HW5 := Lib.hid hW5
      clear hal hq h20 hra hrb hbl hW5
      go_upto_region 6 with fail
      rw [← HW5.out]
      clear e0 e1 e2 e3 e4 e5 e6 e7 e8 e9 HW5
      have p4 := HQ1.out.cell (i := 4) rfl
      have p5 := HQ1.out.cell (i := 5) rfl
      have p6 := HQ1.out.cell (i := 6) rfl
      have p7 := HQ1.out.cell (i := 7) rfl
      go_wp2
      all_goals first
        | (go_ret; exact ⟨rfl, HBl.out⟩)
        | (go_roundg 0; (case measure => omega); (case rel => exact ⟨2, by omega, by go_num, H20.out, HA1.out, HB1.out, HBl.out⟩))
    · skip
      have c0 := hra.cell (i := 0) rfl; have c1 := hra.cell (i := 1) rfl; have c2 := hra.cell (i := 2) rfl; have c3 := hra.cell (i := 3) rfl; have c4 := hra.cell (i := 4) rfl; have c5 := hra.cell (i := 5) rfl; have c6 := hra.cell (i := 6) rfl; have c7 := hra.cell (i := 7) rfl; have c8 := hra.cell (i := 8) rfl; have c9 := hra.cell (i := 9) rfl
      have d0 := hrb.cell (i := 0) rfl; have d1 := hrb.cell (i := 1) rfl; have d2 := hrb.cell (i := 2) rfl; have d3 := hrb.cell (i := 3) rfl; have d4 := hrb.cell (i := 4) rfl; have d5 := hrb.cell (i := 5) rfl; have d6 := hrb.cell (i := 6) rfl; have d7 := hrb.cell (i := 7) rfl; have d8 := hrb.cell (i := 8) rfl; have d9 := hrb.cell (i := 9) rfl
      have HA1 := Lib.hid hra
      have HB1 := Lib.hid hrb
      have HBl := Lib.hid hbl
      clear h20 hra hrb hbl
      go_wp2_with fail
      have HEx1 := Lib.hid (HEx.out wr HBl.out)
      cases hxr : (WriteV.mk r1 n1 t1 s1 dp1 dl1 dc1 se1 k1 v1 g1 l1).right with
      | false =>
        refine HEx1.out.mono ?_
        rintro e w4 ⟨he, hb4⟩
        obtain ⟨T1, x1, rfl⟩ := encIs_false he hxr
        have HA4 := Lib.hid (HA1.out.below hb4)
        have HB4 := Lib.hid (HB1.out.below hb4)
        have HBl4 := Lib.hid (HBl.out.trans (hb4.mono HBl.out.size))
        have HEy4 := Lib.hid (HEy.out w4 HBl4.out)
        clear he hb4 hxr c0 c1 c2 c3 c4 c5 c6 c7 c8 c9 d0 d1 d2 d3 d4 d5 d6 d7 d8 d9
        have d0 := HB4.out.cell (i := 0) rfl; have d1 := HB4.out.cell (i := 1) rfl; have d2 := HB4.out.cell (i := 2) rfl; have d3 := HB4.out.cell (i := 3) rfl; have d4 := HB4.out.cell (i := 4) rfl; have d5 := HB4.out.cell (i := 5) rfl; have d6 := HB4.out.cell (i := 6) rfl; have d7 := HB4.out.cell (i := 7) rfl; have d8 := HB4.out.cell (i := 8) rfl; have d9 := HB4.out.cell (i := 9) rfl
        go_wp2_with fail
        refine HEy4.out.mono ?_
        rintro e w5 ⟨he, hb5⟩
        cases hyr : (WriteV.mk r2 n2 t2 s2 dp2 dl2 dc2 se2 k2 v2 g2 l2).right with
        | false =>
          obtain ⟨T2, x2, rfl⟩ := encIs_false he hyr
          have HBl5 := Lib.hid (HBl4.out.trans (hb5.mono HBl4.out.size))
          clear he hb5 hyr d0 d1 d2 d3 d4 d5 d6 d7 d8 d9
          go_wp2
          go_ret
          exact ⟨rfl, HBl5.out⟩
        | true =>
          have he' := encIs_true he hyr
          subst he'
          have HBl5 := Lib.hid (HBl4.out.trans (hb5.mono HBl4.out.size))
          clear he hb5 hyr d0 d1 d2 d3 d4 d5 d6 d7 d8 d9
          go_wp2
          go_ret
          exact ⟨rfl, HBl5.out⟩
      | true =>
        refine HEx1.out.mono ?_
        rintro e w4 ⟨he, hb4⟩
        have he' := encIs_true he hxr
        subst he'
        have HA4 := Lib.hid (HA1.out.below hb4)
        have HB4 := Lib.hid (HB1.out.below hb4)
        have HBl4 := Lib.hid (HBl.out.trans (hb4.mono HBl.out.size))
        have HEy4 := Lib.hid (HEy.out w4 HBl4.out)
        have HXr := Lib.hid hxr
        obtain ⟨S1, hS1⟩ : ∃ S1, S1 = txt (WireMath.writeBytesT (WriteV.mk r1 n1 t1 s1 dp1 dl1 dc1 se1 k1 v1 g1 l1).t) := ⟨_, rfl⟩
        rw [← hS1]
        have HS1 := Lib.hid hS1
        clear he hb4 hxr hS1 c0 c1 c2 c3 c4 c5 c6 c7 c8 c9 d0 d1 d2 d3 d4 d5 d6 d7 d8 d9
        have d0 := HB4.out.cell (i := 0) rfl; have d1 := HB4.out.cell (i := 1) rfl; have d2 := HB4.out.cell (i := 2) rfl; have d3 := HB4.out.cell (i := 3) rfl; have d4 := HB4.out.cell (i := 4) rfl; have d5 := HB4.out.cell (i := 5) rfl; have d6 := HB4.out.cell (i := 6) rfl; have d7 := HB4.out.cell (i := 7) rfl; have d8 := HB4.out.cell (i := 8) rfl; have d9 := HB4.out.cell (i := 9) rfl
        go_wp2_with fail
        refine HEy4.out.mono ?_
        rintro e w5 ⟨he, hb5⟩
        cases hyr : (WriteV.mk r2 n2 t2 s2 dp2 dl2 dc2 se2 k2 v2 g2 l2).right with
        | false =>
          obtain ⟨T2, x2, rfl⟩ := encIs_false he hyr
          have HBl5 := Lib.hid (HBl4.out.trans (hb5.mono HBl4.out.size))
          clear he hb5 hyr d0 d1 d2 d3 d4 d5 d6 d7 d8 d9
          go_wp2
          go_ret
          exact ⟨rfl, HBl5.out⟩
        | true =>
          have he' := encIs_true he hyr
          subst he'
          have HA5 := Lib.hid (HA4.out.below hb5)
          have HB5 := Lib.hid (HB4.out.below hb5)
          have HBl5 := Lib.hid (HBl4.out.trans (hb5.mono HBl4.out.size))
          have hsm := HSm.out w5 HBl5.out
          obtain ⟨S2, hS2⟩ : ∃ S2, S2 = txt (WireMath.writeBytesT (WriteV.mk r2 n2 t2 s2 dp2 dl2 dc2 se2 k2 v2 g2 l2).t) := ⟨_, rfl⟩
          rw [← hS2]
          clear he hb5 d0 d1 d2 d3 d4 d5 d6 d7 d8 d9
          have c0 := HA5.out.cell (i := 0) rfl; have c1 := HA5.out.cell (i := 1) rfl; have c2 := HA5.out.cell (i := 2) rfl; have c3 := HA5.out.cell (i := 3) rfl; have c4 := HA5.out.cell (i := 4) rfl; have c5 := HA5.out.cell (i := 5) rfl; have c6 := HA5.out.cell (i := 6) rfl; have c7 := HA5.out.cell (i := 7) rfl; have c8 := HA5.out.cell (i := 8) rfl; have c9 := HA5.out.cell (i := 9) rfl
          have d0 := HB5.out.cell (i := 0) rfl; have d1 := HB5.out.cell (i := 1) rfl; have d2 := HB5.out.cell (i := 2) rfl; have d3 := HB5.out.cell (i := 3) rfl; have d4 := HB5.out.cell (i := 4) rfl; have d5 := HB5.out.cell (i := 5) rfl; have d6 := HB5.out.cell (i := 6) rfl; have d7 := HB5.out.cell (i := 7) rfl; have d8 := HB5.out.cell (i := 8) rfl; have d9 := HB5.out.cell (i := 9) rfl
          by_cases hss : S1.toList = S2.toList
          · rw [same_bytes ((right_iff _).1 HXr.out) ((right_iff _).1 hyr) (by rw [← HS1.out, ← hS2]; exact hss)] at hsm
            have HSm5 := Lib.hid hsm
            have hss' : (S1.toList == S2.toList) = true := by rw [beq_iff_eq]; exact hss
            clear hsm hyr hS2 hss
            go_wp2_with (go_at_call 25; refine HSm5.out.mono ?_; rintro e w6 ⟨rfl, hb6⟩)
            go_ret
            exact ⟨rfl, HBl5.out.trans (hb6.mono HBl5.out.size)⟩
          · have hne : sameW (WriteV.mk r1 n1 t1 s1 dp1 dl1 dc1 se1 k1 v1 g1 l1) (WriteV.mk r2 n2 t2 s2 dp2 dl2 dc2 se2 k2 v2 g2 l2) = false := by
              rw [Bool.eq_false_iff]
              intro h
              exact hss (by rw [HS1.out, hS2, bytes_same h])
            rw [hne] at hsm
            have HSm5 := Lib.hid hsm
            have hss' : (S1.toList == S2.toList) = false := by rw [beq_eq_false_iff_ne]; exact hss
            clear hsm hyr hS2 hss hne
            go_wp2_with (go_at_call 25; refine HSm5.out.mono ?_; rintro e w6 ⟨rfl, hb6⟩)
            go_ret
            exact ⟨rfl, HBl5.out.trans (hb6.mono HBl5.out.size)⟩
end Go.Proofs.Ytpmhfoleafjlbaa
