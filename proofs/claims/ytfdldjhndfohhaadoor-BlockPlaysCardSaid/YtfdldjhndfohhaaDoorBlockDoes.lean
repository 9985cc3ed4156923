/-
  The contract of chapter 8's helper does, of an operation of no kind, and of all. The conditions: the program's contracts; both devices.
-/
import Derived.Test.YtfdldjhndfohhaaDoorBlockDoes1
import Derived.Test.YtfdldjhndfohhaaDoorBlockDoes2
import Derived.Test.YtfdldjhndfohhaaDoorBlockDoes3
import Derived.Test.YtfdldjhndfohhaaDoorBlockDoes4
import Derived.Test.YtfdldjhndfohhaaDoorBlockDoes5
import Derived.Test.YtfdldjhndfohhaaDoorBlockDoes6
import Derived.Test.YtfdldjhndfohhaaDoorBlockDoes7
namespace Go.Proofs.YtfdldjhndfohhaaDoor
open Go.RowKit BlockMath TextNat

set_option maxRecDepth 100000 in
set_option maxHeartbeats 8000000 in
theorem does_other {D : Dev} (k : Int) (B b v : Nat) (d : Dk) (s : ByteArray) (n m : Int) (w : World) (h : Pair D B w b v d) (hk : ∀ j : Nat, j < 8 → k ≠ (j : Int)) :
    Calls Tryd.prog 9 #[ptr b, ptr v, .agg #[.int .i64 k, .string s, .int .i64 n, .int .i64 m]] w fun e w' => DoesIs D B w b v e w' := by
  obtain ⟨w1, hw1⟩ : ∃ w1, w1 = w.alloc (.cells #[ptr v] 29) := ⟨_, rfl⟩
  obtain ⟨w2, hw2⟩ : ∃ w2, w2 = w1.alloc (.cells #[.int .i64 k, .string s, .int .i64 n, .int .i64 m] 36) := ⟨_, rfl⟩
  have hb1 : Below w.heap.size w w1 := by rw [hw1]; exact (Below.refl _ _).alloc (Nat.le_refl _) _
  have hb2 : Below w1.heap.size w1 w2 := by rw [hw2]; exact (Below.refl _ _).alloc (Nat.le_refl _) _
  have hz1 : w1.heap.size = w.heap.size + 1 := by rw [hw1]; simp
  have hl1 : Lies w1 w.heap.size [ptr v] 29 := by rw [hw1]; exact Lies.new w _ _
  have hl2 : Lies w2 w1.heap.size [.int .i64 k, .string s, .int .i64 n, .int .i64 m] 36 := by rw [hw2]; exact Lies.new w1 _ _
  have hp := (h.below hb1).below hb2
  obtain ⟨S, hs1, hs2, hs3⟩ := h.own
  have hs4 := D.lt hs1
  have AT0 := Lib.hid (show D.at_ w2 b S d from D.stays hs1 (Nat.le_trans hb1.size hb2.size) fun k hk => (hb2.block k (by have := hs4 k hk; omega)).trans (hb1.block k (hs4 k hk)))
  have AT := Lib.hid (show D.at_ w2.drew b S d from D.stays AT0.out (Nat.le_refl _) fun k _ => rfl)
  replace hs2 := Lib.hid hs2
  replace hs3 := Lib.hid hs3
  replace hs4 := Lib.hid hs4
  have OK := Lib.hid h.ok
  have LE := Lib.hid h.le
  have HVL := Lib.hid (Lies.lt h.rd)
  have HP0 := Lib.hid hp
  have HP := Lib.hid (show Pair D B w2.drew b v d from hp.below (Below.drew (Below.refl w2.heap.size w2)))
  have HV := Lib.hid (hl1.below hb2)
  have HO := Lib.hid hl2
  have HB := Lib.hid (((hb1.mono h.bs).trans (hb2.mono (h.below hb1).bs)))
  have HW1 := Lib.hid hw1
  have HW2 := Lib.hid hw2
  rw [hz1] at HO
  have HS := Lib.hid (show w2.heap.size = w.heap.size + 2 by rw [hw2]; simp [hz1])
  clear hb1 hb2 hl1 hl2 hp hw1 hw2 h hs1
  have z0 : (k == 0) = false := by rw [beq_eq_false_iff_ne]; exact hk 0 (by omega)
  have z1 : (k == 1) = false := by rw [beq_eq_false_iff_ne]; exact hk 1 (by omega)
  have z2 : (k == 2) = false := by rw [beq_eq_false_iff_ne]; exact hk 2 (by omega)
  have z3 : (k == 3) = false := by rw [beq_eq_false_iff_ne]; exact hk 3 (by omega)
  have z4 : (k == 4) = false := by rw [beq_eq_false_iff_ne]; exact hk 4 (by omega)
  have z5 : (k == 5) = false := by rw [beq_eq_false_iff_ne]; exact hk 5 (by omega)
  have z6 : (k == 6) = false := by rw [beq_eq_false_iff_ne]; exact hk 6 (by omega)
  have z7 : (k == 7) = false := by rw [beq_eq_false_iff_ne]; exact hk 7 (by omega)
  clear hk
  go_enter Tryd.func9, Tryd.ntmps9
  go_wp2
  go_ret
  rw [HW2.out, HW1.out] at HP0 HB
  exact ⟨rfl, ⟨_, HP0.out⟩, HB.out⟩
theorem does_ok {D : Dev} (hA : AppendOk D) (hS : SyncOk D) (hU : CutOk D) (hR : ReadOk D) (hO : RoomOk D) (hF : FuseOk D) (hC : CrashOk D) (hT : RotOk D)
    (B b v : Nat) (d : Dk) (k : Int) (s : ByteArray) (n m : Int) (w : World) (h : Pair D B w b v d) (hs : s.size ≤ 3000) (hn : I64 n) (hm : I64 m) :
    Calls Tryd.prog 9 #[ptr b, ptr v, .agg #[.int .i64 k, .string s, .int .i64 n, .int .i64 m]] w fun e w' => DoesIs D B w b v e w' := by
  by_cases h0 : k = 0
  · subst h0
    exact does_append hA B b v d s n m w h hs
  by_cases h1 : k = 1
  · subst h1
    exact does_sync hS B b v d s n m w h
  by_cases h2 : k = 2
  · subst h2
    exact does_cut hU B b v d s n m w h hn
  by_cases h3 : k = 3
  · subst h3
    exact does_read hR B b v d s n m w h hn hm
  by_cases h4 : k = 4
  · subst h4
    exact does_room hO B b v d s n m w h hn
  by_cases h5 : k = 5
  · subst h5
    exact does_fuse hF B b v d s n m w h hn
  by_cases h6 : k = 6
  · subst h6
    exact does_crash hC B b v d s n m w h hn hs
  by_cases h7 : k = 7
  · subst h7
    exact does_rot hT B b v d s n m w h hn
  exact does_other k B b v d s n m w h (fun j hj => by omega)
end Go.Proofs.YtfdldjhndfohhaaDoor
