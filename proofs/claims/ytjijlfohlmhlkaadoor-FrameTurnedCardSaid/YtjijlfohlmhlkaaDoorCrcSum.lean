/-
  The contract of crc.Sum: of any bytes it is the sum, and memory is as it was. The conditions: the slice's cells are told; the two tables hold what the program's text lays there.
-/
import Derived.Test.YtjijlfohlmhlkaaDoorCrcStep
import Derived.Test.YtjijlfohlmhlkaaDoorArrays
import Derived.Deep.LoopGhost
namespace Go.Proofs.YtjijlfohlmhlkaaDoor
open Go.RowKit CrcMath

set_option maxHeartbeats 4000000 in
theorem sum_walk (zs : List Nat) (pp : Option Addr) (cap : Nat) (w : World) (hn : zs.length ≤ 1099511627776) (hz : Bytes w pp zs) (hT : Tables w) :
    Calls Tryd.prog 36 #[.slice pp zs.length cap] w fun e w' => e = .returned (.int .u32 (sum zs : Nat)) ∧ ∃ n, w' = w.drewN n := by
  have HZ := Lib.hid hz
  have HT := Lib.hid hT
  have HN := Lib.hid hn
  clear hz hT hn
  go_enter Tryd.func36, Tryd.ntmps36
  go_wp2
  go_loopg [3, 8] zs.length (fun g s3 s8 wx => ∃ k v n : Nat, k + g = zs.length ∧ s8 = .int .i64 k ∧ s3 = .int .u32 v ∧ Hid (v = sum (zs.take k)) ∧ wx = w.drewN n)
  case atStart => exact ⟨0, 0, 0, by omega, by go_num, by go_num, Lib.hid (by rw [List.take_zero]; rfl), rfl⟩
  case round =>
    obtain ⟨k, v, n, hk, rfl, rfl, hv, rfl⟩ := hrel
    by_cases hlt : k < zs.length
    · obtain ⟨hz, b, off, rfl, c0⟩ := HZ.out k _ (List.getElem?_eq_getElem hlt)
      obtain ⟨z, hzk⟩ : ∃ z, z = zs[k] := ⟨_, rfl⟩
      rw [← hzk] at c0 hz
      have HK := Lib.hid hzk
      have hNN := HN.out
      have HS := Lib.hid (step_walk v z (w.drewN n) (by rw [hv.out]; exact sum_lt _) hz (HT.out.drewN n))
      clear hzk
      go_wp2_with (go_at_call 41; refine HS.out.mono ?_; rintro e w3 ⟨rfl, m, rfl⟩)
      go_roundg (zs.length - (k + 1))
      case measure => omega
      case rel => exact ⟨k + 1, CrcMath.step v z, n + m, by omega, by go_num, rfl, Lib.hid (by rw [List.take_succ_eq_append_getElem hlt, sum_snoc, ← HK.out, hv.out]), rfl⟩
    · obtain rfl : k = zs.length := by omega
      have d1 : decide (zs.length < zs.length) = false := by simp
      clear hlt
      go_wp2
      go_ret
      have hv' := hv.out
      rw [List.take_length] at hv'
      exact ⟨by rw [hv']; rfl, _, rfl⟩
end Go.Proofs.YtjijlfohlmhlkaaDoor
