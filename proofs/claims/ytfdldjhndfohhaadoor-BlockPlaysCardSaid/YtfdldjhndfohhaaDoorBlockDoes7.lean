/-
  The contract of chapter 8's helper does, of one kind of operation (Rot). The conditions: the program's contracts; both devices.
-/
import Derived.Test.YtfdldjhndfohhaaDoorBlockDoes0
namespace Go.Proofs.YtfdldjhndfohhaaDoor
open Go.RowKit BlockMath TextNat

set_option maxRecDepth 100000 in
set_option maxHeartbeats 8000000 in
theorem does_rot {D : Dev} (hT : RotOk D) (B b v : Nat) (d : Dk) (s : ByteArray) (n m : Int) (w : World) (h : Pair D B w b v d) (hn : I64 n) :
    Calls Tryd.prog 9 #[ptr b, ptr v, .agg #[.int .i64 7, .string s, .int .i64 n, .int .i64 m]] w fun e w' => DoesIs D B w b v e w' := by
  obtain ⟨w1, hw1⟩ : ∃ w1, w1 = w.alloc (.cells #[ptr v] 29) := ⟨_, rfl⟩
  obtain ⟨w2, hw2⟩ : ∃ w2, w2 = w1.alloc (.cells #[.int .i64 7, .string s, .int .i64 n, .int .i64 m] 36) := ⟨_, rfl⟩
  have hb1 : Below w.heap.size w w1 := by rw [hw1]; exact (Below.refl _ _).alloc (Nat.le_refl _) _
  have hb2 : Below w1.heap.size w1 w2 := by rw [hw2]; exact (Below.refl _ _).alloc (Nat.le_refl _) _
  have hz1 : w1.heap.size = w.heap.size + 1 := by rw [hw1]; simp
  have hl1 : Lies w1 w.heap.size [ptr v] 29 := by rw [hw1]; exact Lies.new w _ _
  have hl2 : Lies w2 w1.heap.size [.int .i64 7, .string s, .int .i64 n, .int .i64 m] 36 := by rw [hw2]; exact Lies.new w1 _ _
  have hp := (h.below hb1).below hb2
  obtain ⟨S, hs1, hs2, hs3⟩ := h.own
  have hs4 := D.lt hs1
  have AT0 := Lib.hid (show D.at_ w2 b S d from D.stays hs1 (Nat.le_trans hb1.size hb2.size) fun k hk => (hb2.block k (by have := hs4 k hk; omega)).trans (hb1.block k (hs4 k hk)))
  have AT := Lib.hid (show D.at_ w2.drew b S d from D.stays AT0.out (Nat.le_refl _) fun k _ => rfl)
  replace hs2 := Lib.hid hs2
  replace hs3 := Lib.hid hs3
  replace hs4 := Lib.hid hs4
  have OK := Lib.hid h.ok
  have LE := Lib.hid h.le
  have HVL := Lib.hid (Lies.lt h.rd)
  have HP0 := Lib.hid hp
  have HP := Lib.hid (show Pair D B w2.drew b v d from hp.below (Below.drew (Below.refl w2.heap.size w2)))
  have HV := Lib.hid (hl1.below hb2)
  have HO := Lib.hid hl2
  have HB := Lib.hid (((hb1.mono h.bs).trans (hb2.mono (h.below hb1).bs)))
  have HW1 := Lib.hid hw1
  have HW2 := Lib.hid hw2
  rw [hz1] at HO
  have HS := Lib.hid (show w2.heap.size = w.heap.size + 2 by rw [hw2]; simp [hz1])
  replace hT := Lib.hid hT
  clear hb1 hb2 hl1 hl2 hp hw1 hw2 h hs1
  go_enter Tryd.func9, Tryd.ntmps9
  go_wp2_with fail
  rw [← HW1.out, ← HW2.out]
  have cv := HV.out.cell (i := 0) rfl
  have co2 := HO.out.cell (i := 2) rfl
  have co3 := HO.out.cell (i := 3) rfl
  obtain ⟨c, hc⟩ : ∃ c : Nat, c = (m % 256).toNat := ⟨_, rfl⟩
  have hc256 : c < 256 := by omega
  have k8 : IntKind.u8.wrap m = (c : Int) := by rw [hc, IntKind.wrap_u8]; omega
  clear hc
  go_cut [6] from 146 to 160 (fun s6 wx => s6 = .bool true ∧ Hid (Pair D B wx b v (rotD n c d)) ∧ Hid (Below B w2.drew wx))
  case first =>
    go_region_held3 (fun w' => w'.cell? ⟨w.heap.size, 0, none⟩ = some (ptr v) ∧ w'.cell? ⟨w.heap.size + 1, 2, none⟩ = some (.int .i64 n) ∧ w'.cell? ⟨w.heap.size + 1, 3, none⟩ = some (.int .i64 m)) (first | exact ⟨cv5, co2_5, co3_5⟩ | exact ⟨cv4, co2_4, co3_4⟩ | exact ⟨cv, co2, co3⟩) (first
      | (go_at_call 29
         refine (hT.out b S d n c _ AT.out OK.out hn hc256).mono ?_
         rintro e w4 ⟨rfl, hq⟩
         have hh := Lib.hid (HP.out.half hs2.out hs3.out hq)
         have cv4 : w4.cell? ⟨w.heap.size, 0, none⟩ = some (ptr v) := ((hq.2.cell_at (lt_box0 HS.out) (fun hk => Nat.lt_irrefl _ (hs4.out _ hk)))).trans cv
         have co2_4 : w4.cell? ⟨w.heap.size + 1, 2, none⟩ = some (.int .i64 n) := ((hq.2.cell_at (lt_box1 HS.out) (fun hk => ne_box1 (hs4.out _ hk)))).trans co2
         have co3_4 : w4.cell? ⟨w.heap.size + 1, 3, none⟩ = some (.int .i64 m) := ((hq.2.cell_at (lt_box1 HS.out) (fun hk => ne_box1 (hs4.out _ hk)))).trans co3
         clear hq)
      | (go_at_call 30
         refine (refRot v d n c _ hh.out.rd OK.out hn hc256).mono ?_
         rintro e w5 ⟨rfl, hr, hb⟩
         have hf := Lib.hid (hh.out.full (OK.out.rot n c) LE.out HP.out.bs HP.out.hb hr hb)
         have cv5 := (hb.cell (o := 0) (lt_box2 hh.out.size HS.out) (Nat.ne_of_gt HVL.out)).trans cv4
         have co2_5 := (hb.cell (o := 2) (lt_box3 hh.out.size HS.out) (ne_box3 HVL.out)).trans co2_4
         have co3_5 := (hb.cell (o := 3) (lt_box3 hh.out.size HS.out) (ne_box3 HVL.out)).trans co3_4
         clear hr hb))
    all_goals
      go_wp2_with fail
      go_meet
      case rel => exact ⟨rfl, Lib.hid hf.out.1, Lib.hid hf.out.2⟩
  case rest =>
    obtain ⟨rfl, hp, hb⟩ := hcut
    go_wp2
    go_ret
    exact ⟨rfl, ⟨_, hp.out⟩, HB.out.trans (undrew hb.out)⟩
end Go.Proofs.YtfdldjhndfohhaaDoor
