/-
  The contract of the program's Trim of chapter 6. No conditions but those typed.
-/
import Derived.Test.YtkdjfeaaojecdaaVecPAt
import Derived.Test.YtkdjfeaaojecdaaMark2
namespace VecMath
theorem cnt_take (l : List Int) (e i : Nat) : cnt (l.take e) i = if i < e then cnt l i else 0 := by
  unfold cnt
  rw [List.getD_eq_getElem?_getD, List.getD_eq_getElem?_getD, List.getElem?_take]
  split <;> rfl
theorem trim_less {l : List Int} {e : Nat} (h : l[e]? = some 0) : trim (l.take (e + 1)) = trim (l.take e) := trim_ext fun i => by
  rw [cnt_take, cnt_take]
  by_cases h1 : i < e
  · rw [if_pos h1, if_pos (by omega)]
  · by_cases h2 : i = e
    · rw [if_neg h1, if_pos (by omega), h2, cnt_at h]
    · rw [if_neg h1, if_neg (by omega)]
theorem trim_keep : ∀ (v : List Int) (z : Int), v.getLast? = some z → z ≠ 0 → trim v = v
  | [], _, h, _ => by simp at h
  | [x], z, h, hz => by
    obtain rfl : x = z := by simpa using h
    rw [trim_cons (by simpa using hz)]
    rfl
  | x :: y :: r, z, h, hz => by
    have h2 : (y :: r).getLast? = some z := by simpa using h
    have hm : z ∈ y :: r := List.mem_of_getLast? h2
    have ha : (x :: y :: r).all (· == 0) = false := by
      rw [← Bool.not_eq_true, List.all_eq_true]
      intro hc
      have := hc z (List.mem_cons_of_mem _ hm)
      exact hz (by simpa using this)
    rw [trim_cons ha, trim_keep (y :: r) z h2 hz]
theorem trim_done {l : List Int} {e : Nat} {z : Int} (h : l[e]? = some z) (hz : z ≠ 0) : trim (l.take (e + 1)) = l.take (e + 1) :=
  trim_keep _ z (by rw [List.take_add_one, h]; simp) hz
end VecMath
namespace Go.Proofs.Ytkdjfeaaojecdaa
open Go.RowKit

theorem got_new {w : World} {B : Nat} {v : Value} {n : Nat} {L : List Int} (hl : (L.map (Value.int .i64)).length = n) (h : OwnsM w B 3 v (0 + n) ([] ++ L.map (Value.int .i64))) : NewVec B w v L := by
  rw [List.length_map] at hl
  rw [Nat.zero_add, List.nil_append] at h
  subst hl
  exact h
/-- The first cells of a slice of ints. -/
theorem cells_taken {w : World} {pp : Option Addr} {l : List Int} (h : Ints w pp l) (n : Nat) : ∀ j u, ((l.take n).map (Value.int .i64))[j]? = some u → ∃ ad, pp = some ad ∧ w.cell? (ad.add j) = some u := fun j u hu => by
  rw [List.getElem?_map] at hu
  obtain ⟨z, hz, rfl⟩ := Option.map_eq_some_iff.1 hu
  rw [List.getElem?_take] at hz
  split at hz
  · obtain ⟨_, b, off, hp, hc⟩ := h j z hz
    have hadd : (⟨b, off, none⟩ : Addr).add j = ⟨b, off + j, none⟩ := by unfold Addr.add; split <;> simp_all
    exact ⟨_, hp, by rw [hadd]; exact hc⟩
  · cases hz
set_option maxRecDepth 100000 in
set_option maxHeartbeats 4000000 in
theorem trimOk : TrimOk := by
  intro p c l w h hl hc
  obtain ⟨ii, hii, hi0, hi1, hi2⟩ := info_parts info_int
  obtain ⟨N, hN⟩ : ∃ N, N = l.length := ⟨_, rfl⟩
  have HI := Lib.hid h
  have HN := Lib.hid hN
  rw [← hN] at hl hc ⊢
  have HT0 := Lib.hid (show VecMath.trim l = VecMath.trim (l.take N) by rw [hN, List.take_length])
  have HB := Lib.hid (Below.refl w.heap.size w)
  clear h hN
  go_enter Try.func14, Try.ntmps14
  go_wp2_with fail
  go_loopg [3] N (fun gh s3 wx => gh ≤ N ∧ s3 = .int .i64 (gh : Int) ∧ Hid (VecMath.trim l = VecMath.trim (l.take gh)) ∧ wx = w)
  case atStart => exact ⟨by omega, by go_num, HT0, rfl⟩
  case round =>
    obtain ⟨heN, rfl, HT, hwx⟩ := hrel
    subst hwx
    clear HT0
    by_cases h0 : 0 < gk
    · have t1 : decide ((0 : Int) < (gk : Int)) = true := decide_eq_true (by omega)
      have t1' : decide (0 < gk) = true := decide_eq_true h0
      obtain ⟨z, hz⟩ : ∃ z, l[gk - 1]? = some z := ⟨_, List.getElem?_eq_getElem (by rw [← HN.out]; omega)⟩
      obtain ⟨_, b, off, rfl, hcz⟩ := HI.out (gk - 1) z hz
      have hg : gk - 1 + 1 = gk := by omega
      by_cases hz0 : z = 0
      · have q2 : (z == 0) = true := by rw [beq_iff_eq]; exact hz0
        have HT2 := Lib.hid (show VecMath.trim l = VecMath.trim (l.take (gk - 1)) by
          have ht := VecMath.trim_less (l := l) (e := gk - 1) (by rw [hz, hz0])
          rw [hg] at ht
          rw [HT.out]; exact ht)
        clear hz hz0 hg
        go_wp2
        go_roundg (gk - 1)
        case measure => omega
        case rel => exact ⟨by omega, by go_num, HT2, rfl⟩
      · have q2 : (z == 0) = false := by rw [beq_eq_false_iff_ne]; exact hz0
        have HE := Lib.hid (show VecMath.trim l = l.take gk by rw [HT.out, ← hg]; exact VecMath.trim_done hz hz0)
        clear hz hz0 hg
        have HO := Lib.hid (OwnsM.of (World.ownsRow_nil wr wr.heap.size 3 1))
        have HL := Lib.hid (show ((l.take gk).map (Value.int .i64)).length = gk by rw [List.length_map, List.length_take, ← HN.out]; omega)
        have HC := Lib.hid (cells_taken HI.out gk)
        go_wp2_with (at_builtin; refine wpList_append_any rfl _ _ 26 26 rfl wr.heap.size 3 3 ii (.int .i64 0) 8 Try.underlying26 Try.underlying26 hii hi0 hi1 hi2 rfl (.slice none 0 0) 0 [] rfl HO.out (some ⟨b, off, none⟩) gk c ((l.take gk).map (Value.int .i64)) rfl HL.out HC.out (fun u hu => by obtain ⟨z, _, rfl⟩ := List.mem_map.1 hu; rfl) (by unfold maxLen; omega) (by omega) (Nat.le_refl _) ?_; intro v2 w2 hown2 hgrow2)
        go_ret
        exact ⟨⟨_, rfl, by rw [HE.out]; exact got_new HL.out hown2⟩, HB.out.grown hgrow2 (Nat.le_refl _) (fun q hq => by cases hq)⟩
    · have t1 : decide ((0 : Int) < (gk : Int)) = false := decide_eq_false (by omega)
      have t1' : decide (0 < gk) = false := decide_eq_false h0
      obtain rfl : gk = 0 := by omega
      have HE := Lib.hid (show VecMath.trim l = [] by rw [HT.out]; rfl)
      cases p with
      | none =>
        go_wp2_with fail
        go_ret
        exact ⟨⟨_, rfl, by rw [HE.out]; exact OwnsM.of (World.ownsRow_nil wr wr.heap.size 3 1)⟩, HB.out⟩
      | some ad =>
        go_wp2_with fail
        go_ret
        exact ⟨⟨_, rfl, by rw [HE.out]; exact OwnsM.of (World.ownsRow_nil wr wr.heap.size 3 1)⟩, HB.out⟩
end Go.Proofs.Ytkdjfeaaojecdaa
