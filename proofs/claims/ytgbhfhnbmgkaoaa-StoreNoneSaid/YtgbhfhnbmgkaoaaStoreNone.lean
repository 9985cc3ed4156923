/-
  StoreNone's contract: it answers true of any write and floor, out of the program's contracts. The conditions: the write's vector lies in memory, its session is a text of at most 2^48 bytes.
-/
import Derived.Test.YtgbhfhnbmgkaoaaPart15
namespace Go.Proofs.Ytgbhfhnbmgkaoaa
open Go.RowKit TextNat RegMath

set_option maxRecDepth 100000 in
theorem field_none (W : World) : (Instr.field 48 (.agg #[.int .i64 0, .int .i64 0, .string ⟨#[]⟩, .bool false, .int .i64 0]) 1).run Try.prog W = .ok (.string ⟨#[]⟩) W := by
  first | kernel_rfl | (simp [Instr.field]; done) | go_simp
set_option maxRecDepth 100000 in
set_option maxHeartbeats 8000000 in
theorem none16 (D : Sto) (hP : Store16 D) (hN : None16) (y : WriteV) (f : Int) (w : World) (hI : Ints w y.dp y.dl) (hs : y.session.size ≤ 281474976710656) : Calls Try.prog 7 #[y.val, .int .i64 f] w fun e w' => e = .returned (.bool true) ∧ Below w.heap.size w w' := by
  have HA := Lib.hid (awake16 D hP)
  have HI := Lib.hid hI
  obtain ⟨n1, n2, n3, n4, n5, n6, n7, n8⟩ := hN
  have H1 := Lib.hid (fun w1 (hw : Below w.heap.size w w1) => n1 y w1 (hI.grown hw))
  have H2 := Lib.hid n2
  simp only [zeroR, RegV.val] at n3
  have H3 := Lib.hid (fun w => n3 y.session w hs)
  have qf := field_none
  have H4 := Lib.hid (fun w => n4 y.session w hs)
  have H5 := Lib.hid n5
  have H6 := Lib.hid n6
  have H7 := Lib.hid n7
  have H8 := Lib.hid n8
  clear n1 n2 n3 n4 n5 n6 n7 n8 hI hP hs
  obtain ⟨y1, y2, y3, y4, yp, yl, yc, ys, yk, yv, yg, yi⟩ := y
  simp only [WriteV.val] at H1 H3 H4 ⊢
  obtain ⟨W1, hW1⟩ : ∃ W1, W1 = w.alloc (.cells #[.int .i64 y1, .int .i64 y2, .int .i64 y3, .int .i64 y4, .slice yp yl.length yc, .string ys, .string yk, .string yv, .bool yg, .int .i64 yi] 36) := ⟨_, rfl⟩
  obtain ⟨A1, hA1⟩ : ∃ A1, A1 = w.heap.size := ⟨_, rfl⟩
  have hl : Lies W1 A1 [.int .i64 y1, .int .i64 y2, .int .i64 y3, .int .i64 y4, .slice yp yl.length yc, .string ys, .string yk, .string yv, .bool yg, .int .i64 yi] 36 := by rw [hW1, hA1]; exact Lies.new _ _ _
  have hb1 : Below w.heap.size w W1 := by rw [hW1]; exact (Below.refl _ _).alloc (Nat.le_refl _) _
  have HW := Lib.hid hW1
  have HAq := Lib.hid hA1
  have HL := Lib.hid hl
  have HB1 := Lib.hid hb1
  clear hW1 hA1 hl hb1
  go_enter Try.func7, Try.ntmps7
  go_wp2_with fail
  rw [← HW.out, ← HAq.out]
  refine (HA.out W1).mono ?_
  rintro e W2 ⟨rfl, hb⟩
  have HB2 := Lib.hid (HB1.out.trans (hb.mono HB1.out.size))
  have hl2 := HL.out.below hb
  have c0 := hl2.cell (i := 0) rfl; have c1 := hl2.cell (i := 1) rfl; have c2 := hl2.cell (i := 2) rfl; have c3 := hl2.cell (i := 3) rfl; have c4 := hl2.cell (i := 4) rfl
  have c5 := hl2.cell (i := 5) rfl; have c6 := hl2.cell (i := 6) rfl; have c7 := hl2.cell (i := 7) rfl; have c8 := hl2.cell (i := 8) rfl; have c9 := hl2.cell (i := 9) rfl
  have HL2 := Lib.hid hl2
  clear hb hl2
  go_wp2_with fail
  refine (H2.out ys yk W2).mono ?_
  rintro e W3 ⟨⟨x, rfl, hx⟩, hb⟩
  have HB3 := Lib.hid (HB2.out.trans (hb.mono HB2.out.size))
  have L3 := Lib.hid (HL2.out.below hb)
  have HE := Lib.hid (fun w' (h : Below W3.heap.size W3 w') => is_err (hx.below h) 1)
  obtain ⟨T, xx, rfl⟩ := hx.iface
  have HA1 := Lib.hid (fun w' (h : Below W3.heap.size W3 w') => H1.out w' (HB3.out.trans (h.mono HB3.out.size)))
  clear hb hx c0 c1 c2 c3 c4 c5 c6 c7 c8 c9
  have c0 := L3.out.cell (i := 0) rfl; have c1 := L3.out.cell (i := 1) rfl; have c2 := L3.out.cell (i := 2) rfl; have c3 := L3.out.cell (i := 3) rfl; have c4 := L3.out.cell (i := 4) rfl; have c5 := L3.out.cell (i := 5) rfl; have c6 := L3.out.cell (i := 6) rfl; have c7 := L3.out.cell (i := 7) rfl; have c8 := L3.out.cell (i := 8) rfl; have c9 := L3.out.cell (i := 9) rfl
  go_wp2_with fail
  refine (HA1.out W3 (Below.refl _ _)).mono ?_
  rintro e W4 ⟨rfl, hb⟩
  have HB4 := Lib.hid (HB3.out.trans (hb.mono HB3.out.size))
  have L4 := Lib.hid (L3.out.below hb)
  have HE4 := Lib.hid (HE.out W4 hb)
  clear hb c0 c1 c2 c3 c4 c5 c6 c7 c8 c9
  have c5 := L4.out.cell (i := 5) rfl
  go_wp2_with fail
  refine HE4.out.mono ?_
  rintro e W5 ⟨rfl, hb⟩
  rw [hb]
  clear hb
  have HB5 := Lib.hid HB4.out
  have L5 := Lib.hid L4.out
  go_wp2_with fail
  refine (H3.out _).mono ?_
  rintro e W6 ⟨rfl, hb⟩
  have HB6 := Lib.hid (HB5.out.trans (hb.mono HB5.out.size))
  have L6 := Lib.hid (L5.out.below hb)
  clear hb
  have c5 := L6.out.cell (i := 5) rfl
  go_wp2_with fail
  refine (H4.out _).mono ?_
  rintro e W7 ⟨⟨pk4, ck4, rfl⟩, hb⟩
  have HB7 := Lib.hid (HB6.out.trans (hb.mono HB6.out.size))
  have L7 := Lib.hid (L6.out.below hb)
  clear hb
  have c5 := L7.out.cell (i := 5) rfl
  go_wp2_with fail
  refine (H5.out _).mono ?_
  rintro e W8 ⟨⟨pk5, ck5, rfl⟩, hb⟩
  have HB8 := Lib.hid (HB7.out.trans (hb.mono HB7.out.size))
  have L8 := Lib.hid (L7.out.below hb)
  clear hb
  have c5 := L8.out.cell (i := 5) rfl
  go_wp2_with fail
  refine (H6.out _ _).mono ?_
  rintro e W9 ⟨rfl, hb⟩
  have HB9 := Lib.hid (HB8.out.trans (hb.mono HB8.out.size))
  have L9 := Lib.hid (L8.out.below hb)
  clear hb
  have c5 := L9.out.cell (i := 5) rfl
  go_wp2_with fail
  refine (H7.out _).mono ?_
  rintro e W10 ⟨⟨pk7, ck7, rfl⟩, hb⟩
  have HB10 := Lib.hid (HB9.out.trans (hb.mono HB9.out.size))
  have L10 := Lib.hid (L9.out.below hb)
  clear hb
  have c5 := L10.out.cell (i := 5) rfl
  go_wp2_with fail
  refine (H8.out _).mono ?_
  rintro e W11 ⟨⟨pk8, ck8, rfl⟩, hb⟩
  have HB11 := Lib.hid (HB10.out.trans (hb.mono HB10.out.size))
  have L11 := Lib.hid (L10.out.below hb)
  clear hb
  have c5 := L11.out.cell (i := 5) rfl
  go_wp2
  go_ret
  exact ⟨rfl, HB11.out⟩
end Go.Proofs.Ytgbhfhnbmgkaoaa
