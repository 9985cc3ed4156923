/-
  The contract of chapter 8's helper does, of one kind of operation (Crash). The conditions: the program's contracts; both devices.
-/
import Derived.Test.YtfdldjhndfohhaaDoorBlockDoes0
namespace Go.Proofs.YtfdldjhndfohhaaDoor
open Go.RowKit BlockMath TextNat

set_option maxRecDepth 100000 in
set_option maxHeartbeats 8000000 in
theorem does_crash {D : Dev} (hC : CrashOk D) (B b v : Nat) (d : Dk) (s : ByteArray) (n m : Int) (w : World) (h : Pair D B w b v d) (hn : I64 n) (hs : s.size ≤ 3000) :
    Calls Tryd.prog 9 #[ptr b, ptr v, .agg #[.int .i64 6, .string s, .int .i64 n, .int .i64 m]] w fun e w' => DoesIs D B w b v e w' := by
  obtain ⟨w1, hw1⟩ : ∃ w1, w1 = w.alloc (.cells #[ptr v] 29) := ⟨_, rfl⟩
  obtain ⟨w2, hw2⟩ : ∃ w2, w2 = w1.alloc (.cells #[.int .i64 6, .string s, .int .i64 n, .int .i64 m] 36) := ⟨_, rfl⟩
  have hb1 : Below w.heap.size w w1 := by rw [hw1]; exact (Below.refl _ _).alloc (Nat.le_refl _) _
  have hb2 : Below w1.heap.size w1 w2 := by rw [hw2]; exact (Below.refl _ _).alloc (Nat.le_refl _) _
  have hz1 : w1.heap.size = w.heap.size + 1 := by rw [hw1]; simp
  have hl1 : Lies w1 w.heap.size [ptr v] 29 := by rw [hw1]; exact Lies.new w _ _
  have hl2 : Lies w2 w1.heap.size [.int .i64 6, .string s, .int .i64 n, .int .i64 m] 36 := by rw [hw2]; exact Lies.new w1 _ _
  have hp := (h.below hb1).below hb2
  obtain ⟨S, hs1, hs2, hs3⟩ := h.own
  have hs4 := D.lt hs1
  have AT0 := Lib.hid (show D.at_ w2 b S d from D.stays hs1 (Nat.le_trans hb1.size hb2.size) fun k hk => (hb2.block k (by have := hs4 k hk; omega)).trans (hb1.block k (hs4 k hk)))
  have AT := Lib.hid (show D.at_ w2.drew b S d from D.stays AT0.out (Nat.le_refl _) fun k _ => rfl)
  replace hs2 := Lib.hid hs2
  replace hs3 := Lib.hid hs3
  replace hs4 := Lib.hid hs4
  have OK := Lib.hid h.ok
  have LE := Lib.hid h.le
  have HVL := Lib.hid (Lies.lt h.rd)
  have HP0 := Lib.hid hp
  have HP := Lib.hid (show Pair D B w2.drew b v d from hp.below (Below.drew (Below.refl w2.heap.size w2)))
  have HV := Lib.hid (hl1.below hb2)
  have HO := Lib.hid hl2
  have HB := Lib.hid (((hb1.mono h.bs).trans (hb2.mono (h.below hb1).bs)))
  have HW1 := Lib.hid hw1
  have HW2 := Lib.hid hw2
  rw [hz1] at HO
  have HS := Lib.hid (show w2.heap.size = w.heap.size + 2 by rw [hw2]; simp [hz1])
  replace hC := Lib.hid hC
  clear hb1 hb2 hl1 hl2 hp hw1 hw2 h hs1
  go_enter Tryd.func9, Tryd.ntmps9
  go_wp2_with fail
  rw [← HW1.out, ← HW2.out]
  have cv := HV.out.cell (i := 0) rfl
  have co1 := HO.out.cell (i := 1) rfl
  have co2 := HO.out.cell (i := 2) rfl
  go_wp2_with fail
  refine (hC.out b S d n s _ AT0.out OK.out hn (by omega)).mono ?_
  rintro e w4 ⟨rfl, hq⟩
  have hh := Lib.hid (HP0.out.half hs2.out hs3.out hq)
  have cv4 := (hq.2.cell_at (lt_cell cv) (fun hk => Nat.lt_irrefl _ (hs4.out _ hk))).trans cv
  have co14 := (hq.2.cell_at (lt_cell co1) (fun hk => ne_box1 (hs4.out _ hk))).trans co1
  have co24 := (hq.2.cell_at (lt_cell co2) (fun hk => ne_box1 (hs4.out _ hk))).trans co2
  clear hq
  go_wp2_with fail
  refine (refCrash v d n s _ hh.out.rd OK.out (by omega)).mono ?_
  rintro e w5 ⟨rfl, hr, hb⟩
  have hf := Lib.hid (hh.out.full (OK.out.crash n s) LE.out HP0.out.bs HP0.out.hb hr hb)
  clear hr hb
  go_wp2
  go_ret
  exact ⟨rfl, ⟨_, hf.out.1⟩, HB.out.trans hf.out.2⟩
end Go.Proofs.YtfdldjhndfohhaaDoor
