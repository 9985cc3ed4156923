/-
  The contract of chapter 3's awake: it answers true; old memory is as it was. The condition: the 64 constants stand where the program's text lays them.
-/
import Derived.Test.YtnhncloafnnhmaaDoorMacTag
namespace Go.Proofs.YtnhncloafnnhmaaDoor
open Go.RowKit ShaMath TextNat

theorem abc4 : (ShaMath.digest [97, 98, 99]).take 4 = [0xba, 0x78, 0x16, 0xbf] := by kernel_rfl
theorem extract_four (D : ByteArray) (l : List Nat) (h : (nats D).take 4 = l) : D.extract 0 4 = txt l := by
  have e : (D.extract 0 4).data.toList = D.data.toList.take 4 := by
    rw [Lib.extract_data]
    simp
  apply nats_inj
  have e2 : nats (D.extract 0 4) = (nats D).take 4 := by
    unfold nats
    rw [e, List.map_take]
  rw [e2, h, nats_txt]
  intro b hb
  rw [← h] at hb
  exact nats_lt D b (List.mem_of_mem_take hb)

theorem awake_true (w : World) (hp : Parts w) : Calls Tryd.prog 7 #[] w fun e w' => e = .returned (.bool true) ∧ Below w.heap.size w w' := by
  obtain ⟨D, hD⟩ : ∃ D, D = txt (digest [97, 98, 99]) := ⟨_, rfl⟩
  have hs : D.size = 32 := by rw [hD, txt_len, digest_len]
  have hx : D.extract 0 4 = ⟨#[186, 120, 22, 191]⟩ := by
    rw [extract_four D [0xba, 0x78, 0x16, 0xbf] (by rw [hD, nats_txt _ (digest_lt _)]; exact abc4)]
    rfl
  have HD := Lib.hid (macDigest ⟨#[97, 98, 99]⟩ w (by decide) hp)
  rw [show nats ⟨#[97, 98, 99]⟩ = [97, 98, 99] from rfl, ← hD] at HD
  clear hD hp
  go_enter Tryd.func7, Tryd.ntmps7
  go_wp2_with (go_at_call 8; refine HD.out.mono ?_; rintro e w2 ⟨rfl, hb2⟩)
  go_ret
  exact ⟨rfl, hb2⟩
end Go.Proofs.YtnhncloafnnhmaaDoor
