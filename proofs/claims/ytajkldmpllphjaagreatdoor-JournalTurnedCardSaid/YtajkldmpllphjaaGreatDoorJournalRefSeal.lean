/-
  The document's own Seal of a Mark of chapter 10. No conditions but those typed.
-/
import Derived.Test.YtajkldmpllphjaaGreatDoorJournalTurned
import Derived.Test.YtajkldmpllphjaaGreatDoorPart08
import Derived.Test.YtajkldmpllphjaaGreatDoorPart13
namespace Go.Proofs.YtajkldmpllphjaaGreatDoor
open Go.RowKit FrameMath TextNat JournalMath

theorem ten_num {n : Nat} (h : n ≤ big) : WireMath.bytes (Item.thing ⟨0, (n : Int), ⟨#[]⟩, false, none, [], 0⟩) = some (WireMath.num n) := by
  rw [WireMath.bytes_k0 rfl (by show (0 : Int) ≤ (n : Int); omega) (by show (n : Int) ≤ _; unfold WireMath.top; unfold big at h; omega)]
  rfl
theorem ten_written {g pl : Nat} (hg : g ≤ big) (hp : pl ≤ big) : WireMath.written (([⟨0, 4, ⟨#[]⟩, false, none, [], 0⟩, ⟨0, (g : Int), ⟨#[]⟩, false, none, [], 0⟩, ⟨0, (pl : Int), ⟨#[]⟩, false, none, [], 0⟩, ⟨1, 0, ⟨#[]⟩, false, none, [], 0⟩] : List Item).map Item.thing) = ⟨payload ⟨4, g, pl, []⟩, none⟩ := by
  have hf : payload ⟨4, g, pl, []⟩ = [WireMath.num 4, WireMath.num g, WireMath.num pl, WireMath.num 0].flatten := by
    simp [payload]
  have h1 := WireMath.num_len 4
  have h2 := WireMath.num_len g
  have h3 := WireMath.num_len pl
  have h4 := WireMath.num_len 0
  rw [hf]
  refine WireMath.written_all ?_ (by simp only [List.flatten_cons, List.flatten_nil, List.length_append, List.length_nil]; omega)
  simp only [List.map_cons, List.map_nil]
  rw [ten_num hg, ten_num hp, show WireMath.bytes (Item.thing ⟨0, 4, ⟨#[]⟩, false, none, [], 0⟩) = some (WireMath.num 4) from ten_num (n := 4) (by decide)]
  rfl
theorem mark_short (g pl : Nat) : (payload ⟨4, g, pl, []⟩).length ≤ 36 := by
  have h1 := WireMath.num_len 4
  have h2 := WireMath.num_len g
  have h3 := WireMath.num_len pl
  have h4 := WireMath.num_len 0
  simp only [payload, List.length_append, List.length_nil]
  omega
set_option maxRecDepth 100000 in
set_option maxHeartbeats 4000000 in
theorem refSealOk : RefSealOk := by
  intro g pl w hg hp
  obtain ⟨xs, hxs⟩ : ∃ xs : List Item, xs = [⟨0, 4, ⟨#[]⟩, false, none, [], 0⟩, ⟨0, (g : Int), ⟨#[]⟩, false, none, [], 0⟩, ⟨0, (pl : Int), ⟨#[]⟩, false, none, [], 0⟩, ⟨1, 0, ⟨#[]⟩, false, none, [], 0⟩] := ⟨_, rfl⟩
  have HW := Lib.hid (show WireMath.written (xs.map Item.thing) = ⟨payload ⟨4, g, pl, []⟩, none⟩ by rw [hxs]; exact ten_written hg hp)
  have HL := Lib.hid (show xs.length = 4 by rw [hxs]; rfl)
  have HS := Lib.hid (show ∀ x ∈ xs, x.s.size ≤ 100000 ∧ x.vl.length ≤ 1000000 by
    intro x hx
    rw [hxs] at hx
    simp at hx
    rcases hx with rfl | rfl | rfl | rfl <;> exact ⟨by show (0 : Nat) ≤ _; omega, by simp⟩)
  have HV := Lib.hid (show ∀ (w' : World), ∀ x ∈ xs, Ints w' x.vp x.vl by
    intro w' x hx
    rw [hxs] at hx
    simp at hx
    rcases hx with rfl | rfl | rfl | rfl <;> exact ints_none w')
  have HC := Lib.hid (show (xs.flatMap Item.cells).toArray = #[.int .i64 0, .int .i64 4, .string ⟨#[]⟩, .bool false, .slice none 0 0, .int .i64 0, .int .i64 (g : Int), .string ⟨#[]⟩, .bool false, .slice none 0 0, .int .i64 0, .int .i64 (pl : Int), .string ⟨#[]⟩, .bool false, .slice none 0 0, .int .i64 1, .int .i64 0, .string ⟨#[]⟩, .bool false, .slice none 0 0] by rw [hxs]; rfl)
  have HP := Lib.hid (show (txt (payload ⟨4, g, pl, []⟩)).size ≤ 100 by rw [txt_len]; have := mark_short g pl; omega)
  have HO := Lib.hid (show (framed (nats (txt (payload ⟨4, g, pl, []⟩)))).length = (JournalMath.mark g pl).length by
    rw [framed_len, nats_len, txt_len]
    show _ = (framed (payload ⟨4, g, pl, []⟩)).length
    rw [framed_len])
  clear hxs hg hp
  go_enter Tryz.func18, Tryz.ntmps18
  go_wp2_with fail
  rw [← HC.out]
  obtain ⟨w1, hw1⟩ : ∃ w1, w1 = (w.alloc (.cells #[.int .i64 4, .int .i64 (g : Int), .int .i64 (pl : Int), .string ⟨#[]⟩] 51)).alloc (.cells (xs.flatMap Item.cells).toArray 80) := ⟨_, rfl⟩
  rw [← hw1]
  have HB := Lib.hid (show Below w.heap.size w w1 by rw [hw1]; exact below_two w _ _)
  have hI : ItemsAt w1 (w.heap.size + 1) xs := itemsAt_of (by rw [hw1]; exact heap_two w _ _) (HV.out w1)
  have hlt : w.heap.size + 1 < w1.heap.size := by rw [hw1]; simp
  rw [show (Value.slice (some ⟨w.heap.size + 1, 0, none⟩) 4 4) = .slice (some ⟨w.heap.size + 1, 0, none⟩) xs.length 4 by rw [HL.out]]
  refine (refWritten xs (w.heap.size + 1) 4 w1 hI hlt HS.out (by rw [HL.out]; omega)).mono ?_
  clear hI hlt hw1
  rintro e w2 ⟨rfl, hb⟩
  have HB2 := Lib.hid (HB.out.trans (hb.mono HB.out.size))
  rw [HW.out]
  unfold putValue
  simp only
  obtain ⟨PT, hPT⟩ : ∃ PT, PT = txt (payload ⟨4, g, pl, []⟩) := ⟨_, rfl⟩
  rw [← hPT] at HP HO ⊢
  clear hb HB hPT
  go_wp2_with fail
  refine (refSeal PT w2 (by have := HP.out; omega)).mono ?_
  rintro e w3 ⟨rfl, hb⟩
  have HB3 := Lib.hid (HB2.out.trans (hb.mono HB2.out.size))
  clear hb
  go_wp2
  go_ret
  exact ⟨⟨_, rfl, by rw [txt_len]; exact HO.out⟩, HB3.out⟩
end Go.Proofs.YtajkldmpllphjaaGreatDoor
