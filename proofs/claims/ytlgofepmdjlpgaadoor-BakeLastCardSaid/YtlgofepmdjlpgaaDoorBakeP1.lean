/-
  The program's small of chapter 14: a text in small letters. The condition: a text of at most 20,000 bytes.
-/
import Derived.Test.YtlgofepmdjlpgaaDoorBakeLib
import Derived.Test.YtlgofepmdjlpgaaDoorBakeRefParse
import Derived.Lib.ConvBytes
namespace Go.Proofs.YtlgofepmdjlpgaaDoor
open Go.RowKit TextNat BakeMath

theorem set_at {w : World} {b i : Nat} {cs : Array Value} {T : TypeId} {fr : Nat × Nat} (hb : w.heap[b]? = some (.cells cs T fr)) (v : Value) : (w.setCell ⟨b, i, none⟩ v).heap[b]? = some (.cells (cs.setIfInBounds i v) T fr) := by
  simp [World.setCell, Array.getElem?_modify, hb]
/-- A cell of one's own row is written. -/
theorem OwnsM.put {w : World} {base : Nat} {e : TypeId} {g n cap : Nat} {xs : List Value} (h : OwnsM w base e (.slice (some ⟨g, 0, none⟩) n cap) n xs) (j : Nat) (v : Value) :
    OwnsM (w.setCell ⟨g, j, none⟩ v) base e (.slice (some ⟨g, 0, none⟩) n cap) n (xs.set j v) := by
  refine ⟨by rw [List.length_set]; exact h.1, ?_⟩
  rcases h.2 with ⟨h1, _⟩ | ⟨g', cap', cur, lo, hi, h1, hb, hg, hm, hnc, hcm, hcs, htake⟩
  · cases h1
  · simp only [Value.slice.injEq, Option.some.injEq, Addr.mk.injEq, and_true, true_and] at h1
    obtain ⟨rfl, rfl⟩ := h1
    refine .inr ⟨g, cap, cur.setIfInBounds j v, lo, hi, rfl, hb, set_at hg v, by rwa [Array.size_setIfInBounds], hnc, hcm, by rwa [Array.size_setIfInBounds], ?_⟩
    rw [Array.toList_setIfInBounds, List.take_set, htake]
theorem small_snoc {l : List Nat} {i z : Nat} (h : l[i]? = some z) : small (l.take (i + 1)) = small (l.take i) ++ [lower z] := by
  unfold small
  rw [List.take_add_one, h, List.map_append]
  rfl
theorem small_len (l : List Nat) {i : Nat} (h : i ≤ l.length) : (small (l.take i)).length = i := by
  unfold small
  rw [List.length_map, List.length_take]
  omega
theorem drop_at {l : List Nat} {i z : Nat} (h : l[i]? = some z) : l.drop i = z :: l.drop (i + 1) := by
  have hl := (List.getElem?_eq_some_iff.1 h).1
  rw [List.drop_eq_getElem_cons hl]
  congr 1
  exact Option.some.inj ((List.getElem?_eq_getElem hl).symm.trans h)
theorem small_put {l : List Nat} {i z : Nat} (h : l[i]? = some z) : small (l.take (i + 1)) ++ l.drop (i + 1) = (small (l.take i) ++ l.drop i).set i (lower z) := by
  have hl := (List.getElem?_eq_some_iff.1 h).1
  have h1 := small_len l (i := i) (by omega)
  rw [small_snoc h, List.set_append_right _ _ (by rw [h1]; exact Nat.le_refl i), h1, Nat.sub_self, List.append_assoc, drop_at h]
  rfl
theorem small_same {l : List Nat} {i z : Nat} (h : l[i]? = some z) (hz : lower z = z) : small (l.take (i + 1)) ++ l.drop (i + 1) = small (l.take i) ++ l.drop i := by
  rw [small_snoc h, hz, List.append_assoc, drop_at h]
  rfl
theorem small_at {l : List Nat} {i z : Nat} (h : l[i]? = some z) : (natVals .u8 (small (l.take i) ++ l.drop i))[i]? = some (.int .u8 (z : Int)) := by
  have hl := (List.getElem?_eq_some_iff.1 h).1
  have h1 := small_len l (i := i) (by omega)
  rw [natVals_at, List.getElem?_append_right (by rw [h1]; exact Nat.le_refl i), h1, Nat.sub_self, drop_at h]
  rfl
theorem bytes_world (w : World) (e : TypeId) (s : ByteArray) : Lib.bytesWorld w e s = w.drew.alloc (.cells (bytesRow s (grownCap w s.size 0 e)) e ((bytesRow s (grownCap w s.size 0 e)).size, (bytesRow s (grownCap w s.size 0 e)).size + 1)) := by
  have h : Lib.bytesCells w e s = bytesRow s (grownCap w s.size 0 e) := rfl
  unfold Lib.bytesWorld
  rw [h, World.freeze, if_neg (by decide)]
  simp only [World.alloc, World.drew, World.mk.injEq, and_true]
  apply Array.ext_getElem?
  intro j
  rw [Array.getElem?_modify, Array.getElem?_push, Array.getElem?_push]
  by_cases hj : j = w.heap.size
  · rw [if_pos hj, if_pos hj, if_pos hj.symm]
    simp
  · rw [if_neg hj, if_neg hj, if_neg (fun e => hj e.symm)]
theorem bytes_below (w : World) (e : TypeId) (s : ByteArray) : Below w.heap.size w (Lib.bytesWorld w e s) := by
  rw [bytes_world]
  exact (Below.refl _ _).drew.alloc (Nat.le_refl _) _
set_option maxRecDepth 100000 in
set_option maxHeartbeats 4000000 in
theorem psmall (s : ByteArray) (w : World) (hs : s.size ≤ 20000) :
    Calls Tryd.prog 39 #[.string s] w fun e w' => e = .returned (.string (txt (small (nats s)))) ∧ Below w.heap.size w w' := by
  obtain ⟨l, hl⟩ : ∃ l, l = nats s := ⟨_, rfl⟩
  have hll : l.length = s.size := by rw [hl]; exact nats_len s
  have HL := Lib.hid hl
  have HLL := Lib.hid hll
  have HLt := Lib.hid (show ∀ b ∈ small l, b < 256 from fun b hb => by
    obtain ⟨c, hc, rfl⟩ := List.mem_map.1 hb
    exact lower_lt (nats_lt s c (by rw [← hl]; exact hc)))
  obtain ⟨W, hW⟩ : ∃ W, W = Lib.bytesWorld w 5 s := ⟨_, rfl⟩
  obtain ⟨cp, hcp⟩ : ∃ cp, cp = grownCap w s.size 0 5 := ⟨_, rfl⟩
  obtain ⟨g, hg⟩ : ∃ g, g = w.heap.size := ⟨_, rfl⟩
  have hc := Lib.run_convert_string_bytes (P := Tryd.prog) w 9 41 5 s Tryd.underlying9 Tryd.underlying41 Tryd.underlying5
  have HO : Hid (OwnsM W w.heap.size 5 (.slice (some ⟨g, 0, none⟩) s.size cp) s.size (natVals .u8 l)) := Lib.hid (by
    have h1 := OwnsM.ofBytes w w.heap.size 5 s (Nat.le_refl _) (by unfold maxLen; omega)
    rw [hW, hg, hcp, hl]
    have h2 : natVals .u8 (nats s) = s.data.toList.map fun b => Value.int .u8 (b.toNat : Int) := by
      unfold natVals nats
      rw [List.map_map]
      rfl
    rw [h2, bytes_world]
    exact h1)
  have HB : Hid (Below w.heap.size w W) := Lib.hid (by rw [hW]; exact bytes_below _ _ _)
  rw [← hW, ← hcp, ← hg] at hc
  rw [← hl]
  have HG := Lib.hid hg
  clear hl hll hW hcp hg
  go_enter Tryd.func39, Tryd.ntmps39
  go_wp2_with fail
  go_loopg [10] s.size (fun gh s10 wx => ∃ i : Nat, i + gh = s.size ∧ s10 = .int .i64 (i : Int) ∧ OwnsM wx w.heap.size 5 (.slice (some ⟨g, 0, none⟩) s.size cp) s.size (natVals .u8 (small (l.take i) ++ l.drop i)) ∧ Below w.heap.size w wx)
  case atStart => exact ⟨0, by omega, by go_num, HO.out, HB.out⟩
  case round =>
    obtain ⟨i, hi, rfl, hown, hb⟩ := hrel
    by_cases hlt : i < s.size
    · have t1 : decide ((i : Int) < (s.size : Int)) = true := decide_eq_true (by omega)
      have t1' : decide (i < s.size) = true := decide_eq_true hlt
      obtain ⟨z, hz⟩ : ∃ z, l[i]? = some z := ⟨_, List.getElem?_eq_getElem (by rw [HLL.out]; exact hlt)⟩
      have hzl : z < 256 := by rw [HL.out] at hz; exact nats_lt s z (List.mem_of_getElem? hz)
      obtain ⟨g', c', he, _, _, _, _, hcs, hfs⟩ := hown.open (by omega)
      simp only [Value.slice.injEq, Option.some.injEq, Addr.mk.injEq, and_true, true_and] at he
      obtain ⟨rfl, rfl⟩ := he
      have hcell : wr.cell? ⟨g, i, none⟩ = some (.int .u8 (z : Int)) := (hcs i hlt).trans (small_at hz)
      have hfr : wr.frozen? ⟨g, i, none⟩ = false := hfs i hlt
      clear hcs hfs
      have HOW := Lib.hid hown
      have HBW := Lib.hid hb
      clear hown hb
      by_cases hc : 65 ≤ z ∧ z ≤ 90
      · have t2 : decide ((65 : Int) ≤ (z : Int)) = true := decide_eq_true (by omega)
        have t3 : decide ((z : Int) ≤ 90) = true := decide_eq_true (by omega)
        obtain ⟨x, hx⟩ : ∃ x, x = z - 65 := ⟨_, rfl⟩
        obtain ⟨y, hy⟩ : ∃ y, y = lower z := ⟨_, rfl⟩
        have k5 : IntKind.u8.wrap ((z : Int) - 65) = (x : Int) := by rw [IntKind.wrap_u8, hx]; omega
        have k6 : IntKind.u8.wrap ((x : Int) + 97) = (y : Int) := by rw [IntKind.wrap_u8, hy]; unfold lower; rw [if_pos hc]; omega
        have HT := Lib.hid (small_put hz)
        rw [← hy] at HT
        clear hy hc hz hx
        go_wp2
        go_roundg (s.size - (i + 1))
        case measure => omega
        case rel =>
          refine ⟨i + 1, by omega, by go_num, ?_, below_set HBW.out (by rw [HG.out]; exact Nat.le_refl _) _ _⟩
          have h1 := HOW.out.put i (.int .u8 (y : Int))
          rw [natVals_set, ← HT.out] at h1
          exact h1
      · have HT := Lib.hid (small_same hz (by unfold lower; rw [if_neg hc]))
        by_cases h65 : 65 ≤ z
        · have t2 : decide ((65 : Int) ≤ (z : Int)) = true := decide_eq_true (by omega)
          have t3 : decide ((z : Int) ≤ 90) = false := decide_eq_false (by omega)
          clear hc hz
          go_wp2
          go_roundg (s.size - (i + 1))
          case measure => omega
          case rel => exact ⟨i + 1, by omega, by go_num, by rw [HT.out]; exact HOW.out, HBW.out⟩
        · have t2 : decide ((65 : Int) ≤ (z : Int)) = false := decide_eq_false (by omega)
          clear hc hz
          go_wp2
          go_roundg (s.size - (i + 1))
          case measure => omega
          case rel => exact ⟨i + 1, by omega, by go_num, by rw [HT.out]; exact HOW.out, HBW.out⟩
    · obtain rfl : i = s.size := by omega
      have t1 : decide (s.size < s.size) = false := decide_eq_false (by omega)
      have hlen : (small l).length = s.size := by unfold small; rw [List.length_map]; exact HLL.out
      rw [List.take_of_length_le (by rw [HLL.out]; exact Nat.le_refl _), List.drop_of_length_le (by rw [HLL.out]; exact Nat.le_refl _), List.append_nil] at hown
      have hcv := text_row wr g cp (small l) HLt.out (fun j hj => by
        have hj' : j < (natVals .u8 (small l)).length := by rw [natVals_len]; exact hj
        have h1 := hown.cells (g := g) rfl j _ (List.getElem?_eq_getElem hj')
        rw [List.getElem?_eq_getElem hj', ← h1]
        congr 1
        unfold Addr.add
        simp)
      rw [hlen] at hcv
      have HBW := Lib.hid hb
      clear hown hb hlen
      go_wp2
      go_ret
      exact ⟨rfl, HBW.out⟩
end Go.Proofs.YtlgofepmdjlpgaaDoor
