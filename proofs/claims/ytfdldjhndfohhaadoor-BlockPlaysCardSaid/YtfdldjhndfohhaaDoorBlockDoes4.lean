/-
  The contract of chapter 8's helper does, of one kind of operation (Room). The conditions: the program's contracts; both devices.
-/
import Derived.Test.YtfdldjhndfohhaaDoorBlockDoes0
namespace Go.Proofs.YtfdldjhndfohhaaDoor
open Go.RowKit BlockMath TextNat

set_option maxRecDepth 100000 in
set_option maxHeartbeats 8000000 in
theorem does_room {D : Dev} (hO : RoomOk D) (B b v : Nat) (d : Dk) (s : ByteArray) (n m : Int) (w : World) (h : Pair D B w b v d) (hn : I64 n) :
    Calls Tryd.prog 9 #[ptr b, ptr v, .agg #[.int .i64 4, .string s, .int .i64 n, .int .i64 m]] w fun e w' => DoesIs D B w b v e w' := by
  obtain ⟨w1, hw1⟩ : ∃ w1, w1 = w.alloc (.cells #[ptr v] 29) := ⟨_, rfl⟩
  obtain ⟨w2, hw2⟩ : ∃ w2, w2 = w1.alloc (.cells #[.int .i64 4, .string s, .int .i64 n, .int .i64 m] 36) := ⟨_, rfl⟩
  have hb1 : Below w.heap.size w w1 := by rw [hw1]; exact (Below.refl _ _).alloc (Nat.le_refl _) _
  have hb2 : Below w1.heap.size w1 w2 := by rw [hw2]; exact (Below.refl _ _).alloc (Nat.le_refl _) _
  have hz1 : w1.heap.size = w.heap.size + 1 := by rw [hw1]; simp
  have hl1 : Lies w1 w.heap.size [ptr v] 29 := by rw [hw1]; exact Lies.new w _ _
  have hl2 : Lies w2 w1.heap.size [.int .i64 4, .string s, .int .i64 n, .int .i64 m] 36 := by rw [hw2]; exact Lies.new w1 _ _
  have hp := (h.below hb1).below hb2
  obtain ⟨S, hs1, hs2, hs3⟩ := h.own
  have hs4 := D.lt hs1
  have AT0 := Lib.hid (show D.at_ w2 b S d from D.stays hs1 (Nat.le_trans hb1.size hb2.size) fun k hk => (hb2.block k (by have := hs4 k hk; omega)).trans (hb1.block k (hs4 k hk)))
  have AT := Lib.hid (show D.at_ w2.drew b S d from D.stays AT0.out (Nat.le_refl _) fun k _ => rfl)
  replace hs2 := Lib.hid hs2
  replace hs3 := Lib.hid hs3
  replace hs4 := Lib.hid hs4
  have OK := Lib.hid h.ok
  have LE := Lib.hid h.le
  have HVL := Lib.hid (Lies.lt h.rd)
  have HP0 := Lib.hid hp
  have HP := Lib.hid (show Pair D B w2.drew b v d from hp.below (Below.drew (Below.refl w2.heap.size w2)))
  have HV := Lib.hid (hl1.below hb2)
  have HO := Lib.hid hl2
  have HB := Lib.hid (((hb1.mono h.bs).trans (hb2.mono (h.below hb1).bs)))
  have HW1 := Lib.hid hw1
  have HW2 := Lib.hid hw2
  rw [hz1] at HO
  have HS := Lib.hid (show w2.heap.size = w.heap.size + 2 by rw [hw2]; simp [hz1])
  replace hO := Lib.hid hO
  clear hb1 hb2 hl1 hl2 hp hw1 hw2 h hs1
  go_enter Tryd.func9, Tryd.ntmps9
  go_wp2_with fail
  rw [← HW1.out, ← HW2.out]
  have cv := HV.out.cell (i := 0) rfl
  have co2 := HO.out.cell (i := 2) rfl
  go_wp2_with fail
  refine (hO.out b S d n _ AT0.out OK.out hn).mono ?_
  rintro e w4 ⟨⟨x, rfl, hx⟩, hq⟩
  have hh := Lib.hid (HP0.out.half hs2.out hs3.out hq)
  have cv4 := (hq.2.cell_at (lt_cell cv) (fun hk => Nat.lt_irrefl _ (hs4.out _ hk))).trans cv
  have co24 := (hq.2.cell_at (lt_cell co2) (fun hk => ne_box1 (hs4.out _ hk))).trans co2
  clear hq
  by_cases hr : n < 0 ∨ 1048576 < n
  · have he : room n d = (1, d) := by unfold room; rw [if_pos hr]
    rw [he] at hx hh
    have HX := Lib.hid hx
    have hp4 : Pair D B w4 b v d := by
      have := hh.out.full OK.out LE.out HP0.out.bs HP0.out.hb hh.out.rd (But.refl v w4)
      exact this.1
    have HP4 := Lib.hid hp4
    clear hp4 hx he
    by_cases h0 : n < 0
    case' pos =>
      have t0 : decide (n < 0) = true := decide_eq_true h0
      clear h0 hr
      go_wp2_with fail
    case' neg =>
      have t0 : decide (n < 0) = false := decide_eq_false h0
      have t1 : decide (1048576 < n) = true := decide_eq_true (by omega)
      clear h0 hr
      go_wp2_with fail
    all_goals
      refine (size_ok w.heap.size v d w4 HP4.out.rd OK.out cv4).mono ?_
      rintro e w6 ⟨rfl, k, rfl⟩
      go_wp2_with fail
      refine (told_ok w2.heap.size x 1 (size d) (w4.drewN k) (HX.out.drewN k) (by omega) HP4.out.handle).mono ?_
      rintro e w7 ⟨rfl, hb7⟩
      replace hb7 := Lib.hid hb7
      go_wp2
      go_ret
      exact ⟨rfl, ⟨_, HP4.out.below (undrawn hb7.out)⟩, HB.out.trans (hh.out.bel.trans ((undrawn hb7.out).mono HP4.out.bs))⟩
  · have t0 : decide (n < 0) = false := decide_eq_false (by omega)
    have t1 : decide (1048576 < n) = false := decide_eq_false (by omega)
    have he : room n d = (0, { d with room := n }) := by unfold room; rw [if_neg hr]
    rw [he] at hx hh
    obtain rfl := hx.zero rfl
    have OK2 := Lib.hid (show Ok { d with room := n } by have := OK.out.room n; rwa [he] at this)
    have f2 := Lies.free hh.out.rd 2
    have c2 := Lies.cell (i := 2) hh.out.rd rfl
    have HR := Lib.hid (rd_set (d' := { d with room := n }) hh.out.rd (i := 2) (x := .int .i64 n) rfl)
    clear hx hr he
    go_wp2
    go_ret
    have hf := hh.out.full OK2.out LE.out HP0.out.bs HP0.out.hb HR.out (But.set v 2 _ _)
    exact ⟨rfl, ⟨_, hf.1⟩, HB.out.trans hf.2⟩
end Go.Proofs.YtfdldjhndfohhaaDoor
