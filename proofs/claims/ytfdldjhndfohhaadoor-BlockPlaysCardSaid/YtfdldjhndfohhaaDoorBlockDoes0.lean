/-
  The contract of chapter 8's helper does, of an Append. The conditions: the program's contracts; both devices.
-/
import Derived.Test.YtfdldjhndfohhaaDoorBlockPair
import Derived.Test.YtfdldjhndfohhaaDoorBlockRef4
import Derived.Test.YtfdldjhndfohhaaDoorBlockRef5
import Derived.Deep.Cut
import Derived.Deep.CutRange
import Derived.Deep.RegionHeld3
namespace Go.Proofs.YtfdldjhndfohhaaDoor
open Go.RowKit BlockMath TextNat

/-- What does answers. -/
def DoesIs (D : Dev) (B : Nat) (w : World) (b v : Nat) (e : Ending) (w' : World) : Prop := e = .returned (.bool true) ∧ (∃ d', Pair D B w' b v d') ∧ Below B w w'
theorem lt_cell {w : World} {b o : Nat} {x : Value} (h : w.cell? ⟨b, o, none⟩ = some x) : b < w.heap.size := World.block_lt_of_cell? w _ h
theorem undrawn {B n : Nat} {w w' : World} (h : Below B (w.drewN n) w') : Below B w w' := ⟨h.os, h.tape, h.output, h.size, h.block⟩
theorem undrew {B : Nat} {w w' : World} (h : Below B w.drew w') : Below B w w' := ⟨h.os, h.tape, h.output, h.size, h.block⟩
theorem lt_box0 {n : Nat} {w : World} (h : w.heap.size = n + 2) : n < w.drew.heap.size := by show n < w.heap.size; omega
theorem lt_box1 {n : Nat} {w : World} (h : w.heap.size = n + 2) : n + 1 < w.drew.heap.size := by show n + 1 < w.heap.size; omega
theorem ne_box1 {n : Nat} (h : n + 1 < n) : False := by omega
theorem lt_box2 {n : Nat} {w w' : World} (k : w.drew.heap.size ≤ w'.heap.size) (h : w.heap.size = n + 2) : n < w'.heap.size := by have : w.heap.size ≤ w'.heap.size := k; omega
theorem lt_box3 {n : Nat} {w w' : World} (k : w.drew.heap.size ≤ w'.heap.size) (h : w.heap.size = n + 2) : n + 1 < w'.heap.size := by have : w.heap.size ≤ w'.heap.size := k; omega
theorem ne_box3 {v n : Nat} (h : v < n) : n + 1 ≠ v := by omega
set_option maxRecDepth 100000 in
set_option maxHeartbeats 8000000 in
theorem does_append {D : Dev} (hA : AppendOk D) (B b v : Nat) (d : Dk) (s : ByteArray) (n m : Int) (w : World) (h : Pair D B w b v d) (hs : s.size ≤ 3000) :
    Calls Tryd.prog 9 #[ptr b, ptr v, .agg #[.int .i64 0, .string s, .int .i64 n, .int .i64 m]] w fun e w' => DoesIs D B w b v e w' := by
  obtain ⟨w1, hw1⟩ : ∃ w1, w1 = w.alloc (.cells #[ptr v] 29) := ⟨_, rfl⟩
  obtain ⟨w2, hw2⟩ : ∃ w2, w2 = w1.alloc (.cells #[.int .i64 0, .string s, .int .i64 n, .int .i64 m] 36) := ⟨_, rfl⟩
  have hb1 : Below w.heap.size w w1 := by rw [hw1]; exact (Below.refl _ _).alloc (Nat.le_refl _) _
  have hb2 : Below w1.heap.size w1 w2 := by rw [hw2]; exact (Below.refl _ _).alloc (Nat.le_refl _) _
  have hz1 : w1.heap.size = w.heap.size + 1 := by rw [hw1]; simp
  have hl1 : Lies w1 w.heap.size [ptr v] 29 := by rw [hw1]; exact Lies.new w _ _
  have hl2 : Lies w2 w1.heap.size [.int .i64 0, .string s, .int .i64 n, .int .i64 m] 36 := by rw [hw2]; exact Lies.new w1 _ _
  have hp := (h.below hb1).below hb2
  obtain ⟨S, hs1, hs2, hs3⟩ := h.own
  have hs4 := D.lt hs1
  have AT := Lib.hid (show D.at_ w2.drew b S d from D.stays hs1 (Nat.le_trans hb1.size hb2.size) fun k hk => (hb2.block k (by have := hs4 k hk; omega)).trans (hb1.block k (hs4 k hk)))
  replace hs2 := Lib.hid hs2
  replace hs3 := Lib.hid hs3
  replace hs4 := Lib.hid hs4
  have OK := Lib.hid h.ok
  have LE := Lib.hid h.le
  have HVL := Lib.hid (Lies.lt h.rd)
  have HP := Lib.hid (show Pair D B w2.drew b v d from hp.below (Below.drew (Below.refl w2.heap.size w2)))
  have HV := Lib.hid (hl1.below hb2)
  have HO := Lib.hid hl2
  have HB := Lib.hid (((hb1.mono h.bs).trans (hb2.mono (h.below hb1).bs)))
  have HW1 := Lib.hid hw1
  have HW2 := Lib.hid hw2
  rw [hz1] at HO
  have HS := Lib.hid (show w2.heap.size = w.heap.size + 2 by rw [hw2]; simp [hz1])
  replace hA := Lib.hid hA
  clear hb1 hb2 hl1 hl2 hp hw1 hw2 h hs1
  go_enter Tryd.func9, Tryd.ntmps9
  go_wp2_with fail
  rw [← HW1.out, ← HW2.out]
  have cv := HV.out.cell (i := 0) rfl
  have co := HO.out.cell (i := 1) rfl
  go_cut [8, 9] from 24 to 31 (fun s8 s9 wx => ∃ x, x = s8 ∧ s9 = .int .i64 (append s d).1 ∧ Hid (ErrOf w2.heap.size wx (append s d).1 (size (append s d).2) x) ∧ Hid (Pair D B wx b v (append s d).2) ∧ Hid (Below B w2.drew wx) ∧ wx.cell? ⟨w.heap.size, 0, none⟩ = some (ptr v))
  case first =>
    go_region_held3 (fun w' => w'.cell? ⟨w.heap.size, 0, none⟩ = some (ptr v) ∧ w'.cell? ⟨w.heap.size + 1, 1, none⟩ = some (.string s)) (first | exact ⟨cv5, co5⟩ | exact ⟨cv4, co4⟩ | exact ⟨cv, co⟩) (first
      | (go_at_call 11
         refine (hA.out b S d s _ AT.out OK.out (by omega)).mono ?_
         rintro e w4 ⟨⟨x, rfl, hx⟩, hq⟩
         have hh := Lib.hid (HP.out.half hs2.out hs3.out hq)
         have cv4 : w4.cell? ⟨w.heap.size, 0, none⟩ = some (ptr v) := ((hq.2.cell_at (lt_box0 HS.out) (fun hk => Nat.lt_irrefl _ (hs4.out _ hk)))).trans cv
         have co4 : w4.cell? ⟨w.heap.size + 1, 1, none⟩ = some (.string s) := ((hq.2.cell_at (lt_box1 HS.out) (fun hk => ne_box1 (hs4.out _ hk)))).trans co
         replace hx := Lib.hid hx
         clear hq)
      | (go_at_call 21
         refine (refAppend v d s _ hh.out.rd OK.out (by omega)).mono ?_
         rintro e w5 ⟨rfl, hr, hb⟩
         have hf := Lib.hid (hh.out.full (OK.out.append s) LE.out HP.out.bs HP.out.hb hr hb)
         have hx5 := Lib.hid (hx.out.full hh.out.lt hb)
         have cv5 := (hb.cell (o := 0) (lt_box2 hh.out.size HS.out) (Nat.ne_of_gt HVL.out)).trans cv4
         have co5 := (hb.cell (o := 1) (lt_box3 hh.out.size HS.out) (ne_box3 HVL.out)).trans co4
         clear hr hb))
    all_goals
      go_wp2_with fail
      go_meet
      case rel => exact ⟨_, rfl, rfl, hx5, Lib.hid hf.out.1, Lib.hid hf.out.2, cv5⟩
  case rest =>
    obtain ⟨x, rfl, rfl, hx, hp, hb, cv5⟩ := hcut
    obtain ⟨d', hd'⟩ : ∃ d', d' = (append s d).2 := ⟨_, rfl⟩
    rw [← hd'] at hx hp
    have HC := Lib.hid (append_code s d)
    obtain ⟨c, hc⟩ : ∃ c, c = (append s d).1 := ⟨_, rfl⟩
    rw [← hc] at hx HC ⊢
    clear hd' hc cv co
    go_wp2_with fail
    refine (size_ok w.heap.size v d' wc hp.out.rd hp.out.ok cv5).mono ?_
    rintro e w6 ⟨rfl, k, rfl⟩
    go_wp2_with fail
    refine (told_ok w2.heap.size x c (size d') (wc.drewN k) (hx.out.drewN k) HC.out hp.out.handle).mono ?_
    rintro e w7 ⟨rfl, hb7⟩
    replace hb7 := Lib.hid hb7
    go_wp2
    go_ret
    exact ⟨rfl, ⟨_, hp.out.below (undrawn hb7.out)⟩, HB.out.trans ((undrew hb.out).trans ((undrawn hb7.out).mono hp.out.bs))⟩
end Go.Proofs.YtfdldjhndfohhaaDoor
