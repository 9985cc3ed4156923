/-
  The contract of chapter 8's helper does, of one kind of operation (Read). The conditions: the program's contracts; both devices.
-/
import Derived.Test.YtfdldjhndfohhaaDoorBlockDoes0
namespace Go.Proofs.YtfdldjhndfohhaaDoor
open Go.RowKit BlockMath TextNat

set_option maxRecDepth 100000 in
set_option maxHeartbeats 8000000 in
theorem does_read {D : Dev} (hR : ReadOk D) (B b v : Nat) (d : Dk) (s : ByteArray) (n m : Int) (w : World) (h : Pair D B w b v d) (hn : I64 n) (hm : I64 m) :
    Calls Tryd.prog 9 #[ptr b, ptr v, .agg #[.int .i64 3, .string s, .int .i64 n, .int .i64 m]] w fun e w' => DoesIs D B w b v e w' := by
  obtain ⟨w1, hw1⟩ : ∃ w1, w1 = w.alloc (.cells #[ptr v] 29) := ⟨_, rfl⟩
  obtain ⟨w2, hw2⟩ : ∃ w2, w2 = w1.alloc (.cells #[.int .i64 3, .string s, .int .i64 n, .int .i64 m] 36) := ⟨_, rfl⟩
  have hb1 : Below w.heap.size w w1 := by rw [hw1]; exact (Below.refl _ _).alloc (Nat.le_refl _) _
  have hb2 : Below w1.heap.size w1 w2 := by rw [hw2]; exact (Below.refl _ _).alloc (Nat.le_refl _) _
  have hz1 : w1.heap.size = w.heap.size + 1 := by rw [hw1]; simp
  have hl1 : Lies w1 w.heap.size [ptr v] 29 := by rw [hw1]; exact Lies.new w _ _
  have hl2 : Lies w2 w1.heap.size [.int .i64 3, .string s, .int .i64 n, .int .i64 m] 36 := by rw [hw2]; exact Lies.new w1 _ _
  have hp := (h.below hb1).below hb2
  obtain ⟨S, hs1, hs2, hs3⟩ := h.own
  have hs4 := D.lt hs1
  have AT0 := Lib.hid (show D.at_ w2 b S d from D.stays hs1 (Nat.le_trans hb1.size hb2.size) fun k hk => (hb2.block k (by have := hs4 k hk; omega)).trans (hb1.block k (hs4 k hk)))
  have AT := Lib.hid (show D.at_ w2.drew b S d from D.stays AT0.out (Nat.le_refl _) fun k _ => rfl)
  replace hs2 := Lib.hid hs2
  replace hs3 := Lib.hid hs3
  replace hs4 := Lib.hid hs4
  have OK := Lib.hid h.ok
  have LE := Lib.hid h.le
  have HVL := Lib.hid (Lies.lt h.rd)
  have HP0 := Lib.hid hp
  have HP := Lib.hid (show Pair D B w2.drew b v d from hp.below (Below.drew (Below.refl w2.heap.size w2)))
  have HV := Lib.hid (hl1.below hb2)
  have HO := Lib.hid hl2
  have HB := Lib.hid (((hb1.mono h.bs).trans (hb2.mono (h.below hb1).bs)))
  have HW1 := Lib.hid hw1
  have HW2 := Lib.hid hw2
  rw [hz1] at HO
  have HS := Lib.hid (show w2.heap.size = w.heap.size + 2 by rw [hw2]; simp [hz1])
  replace hR := Lib.hid hR
  clear hb1 hb2 hl1 hl2 hp hw1 hw2 h hs1
  go_enter Tryd.func9, Tryd.ntmps9
  go_wp2_with fail
  rw [← HW1.out, ← HW2.out]
  have cv := HV.out.cell (i := 0) rfl
  have co2 := HO.out.cell (i := 2) rfl
  have co3 := HO.out.cell (i := 3) rfl
  have HC := Lib.hid (read_code n m d)
  go_wp2_with fail
  refine (hR.out b S d n m _ AT0.out OK.out hn hm).mono ?_
  rintro e w4 ⟨⟨x, rfl, hx⟩, hb⟩
  have cv4 := (hb.cell (p := ⟨w.heap.size, 0, none⟩) (lt_cell cv)).trans cv
  have co24 := (hb.cell (p := ⟨w.heap.size + 1, 2, none⟩) (lt_cell co2)).trans co2
  have co34 := (hb.cell (p := ⟨w.heap.size + 1, 3, none⟩) (lt_cell co3)).trans co3
  have HP4 := Lib.hid (HP0.out.below hb)
  have HB4 := Lib.hid (HB.out.trans (hb.mono HP0.out.bs))
  replace hx := Lib.hid hx
  clear hb cv co2 co3
  go_wp2_with fail
  refine (refRead v d n m _ HP4.out.rd OK.out hn hm).mono ?_
  rintro e w5 ⟨rfl, j, rfl⟩
  obtain ⟨r, hr⟩ : ∃ r, r = BlockMath.read n m d := ⟨_, rfl⟩
  rw [← hr] at hx HC ⊢
  clear hr
  obtain ⟨t, c⟩ := r
  have cv5 : (w4.drewN j).cell? ⟨w.heap.size, 0, none⟩ = some (ptr v) := cv4
  go_wp2_with fail
  refine (size_ok w.heap.size v d (w4.drewN j) (HP4.out.rd.drewN j) OK.out cv5).mono ?_
  rintro e w6 ⟨rfl, k, rfl⟩
  go_wp2_with fail
  refine (told_ok w2.heap.size x c (size d) (w4.drewN (j + k)) (hx.out.drewN (j + k)) HC.out HP4.out.handle).mono ?_
  rintro e w7 ⟨rfl, hb7⟩
  replace hb7 := Lib.hid hb7
  go_wp2
  go_ret
  exact ⟨rfl, ⟨_, HP4.out.below (undrawn hb7.out)⟩, HB4.out.trans ((undrawn hb7.out).mono HP4.out.bs)⟩
end Go.Proofs.YtfdldjhndfohhaaDoor
