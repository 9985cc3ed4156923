/-
  The program's records of chapter 10: the texts of the Records. The conditions: parts that lie in memory.
-/
import Derived.Test.YtajkldmpllphjaaDoorJournalQ9
import Derived.Test.YtajkldmpllphjaaDoorPart08
import Derived.Test.YtajkldmpllphjaaDoorPart03
namespace Go.Proofs.YtajkldmpllphjaaDoor
open Go.RowKit BlockMath FrameMath TextNat JournalMath

set_option maxRecDepth 100000 in
set_option maxHeartbeats 8000000 in
theorem precords_ok (pp : Option Addr) (cap : Nat) (L : List Part) (w : World) (hp : PartsIn w pp (pairs L 0)) (hl : L.length ≤ 500000) :
    Calls Tryd.prog 35 #[.slice pp L.length cap] w fun e w' => (∃ v, e = .returned v ∧ RowT w' w.heap.size v ((recs L).map txt)) ∧ Below w.heap.size w w' := by
  have HX := Lib.hid hp
  obtain ⟨N, hN⟩ : ∃ N, N = L.length := ⟨_, rfl⟩
  have HN := Lib.hid hN
  have hN9 : N ≤ 500000 := by rw [hN]; exact hl
  rw [← hN]
  have HF := Lib.hid (show L.take N = L from List.take_of_length_le (by rw [hN]; exact Nat.le_refl _))
  have R0 := Lib.hid (RowT.nil w w.heap.size)
  have B0 := Lib.hid (Below.refl w.heap.size w)
  have HRL := Lib.hid (show ∀ i, (recs (L.take i)).length ≤ 500000 from fun i => by
    have h1 : (recs (L.take i)).length ≤ (L.take i).length := List.length_filterMap_le _ _
    have h2 : (L.take i).length ≤ L.length := by rw [List.length_take]; omega
    omega)
  clear hp hN hl
  go_enter Tryd.func35, Tryd.ntmps35
  go_wp2_with fail
  go_loopg [3, 8] N (fun gh s3 s8 wx => ∃ i : Nat, i + gh = N ∧ s8 = .int .i64 (i : Int) ∧ RowT wx w.heap.size s3 ((recs (L.take i)).map txt) ∧ Below w.heap.size w wx)
  case atStart => exact ⟨0, by omega, by go_num, R0.out, B0.out⟩
  case round =>
    obtain ⟨i, hi, rfl, hr, hb⟩ := hrel
    rename World => W
    have HR := Lib.hid hr
    have HB := Lib.hid hb
    have HI := Lib.hid hi
    by_cases hin : i < N
    case neg =>
      have u1 : decide ((i : Int) < (N : Int)) = false := decide_eq_false (by omega)
      have u1' : decide (i < N) = false := decide_eq_false hin
      have HIE := Lib.hid (show i = N by omega)
      clear hr hb hi hin
      go_wp2
      go_ret
      have h1 := HR.out
      rw [HIE.out, HF.out] at h1
      exact ⟨⟨_, rfl, h1⟩, HB.out⟩
    case pos =>
      have u1 : decide ((i : Int) < (N : Int)) = true := decide_eq_true (by omega)
      have u1' : decide (i < N) = true := decide_eq_true hin
      obtain ⟨p, hp⟩ : ∃ p, L[i]? = some p := ⟨_, List.getElem?_eq_getElem (by rw [← HN.out]; exact hin)⟩
      obtain ⟨b, off, m, rfl, -, c0, c1, c2, c3, c4⟩ := (HX.out.below HB.out).at_ hp
      have HSN := Lib.hid (recs_snoc hp)
      obtain ⟨k1, hk1⟩ : ∃ k1 : Int, k1 = (p.kind : Int) := ⟨_, rfl⟩
      obtain ⟨k2, hk2⟩ : ∃ k2 : Int, k2 = (p.gen : Int) := ⟨_, rfl⟩
      obtain ⟨k3, hk3⟩ : ∃ k3 : Int, k3 = (p.place : Int) := ⟨_, rfl⟩
      obtain ⟨k4, hk4⟩ : ∃ k4, k4 = txt p.text := ⟨_, rfl⟩
      rw [← hk1] at c0
      rw [← hk2] at c1
      rw [← hk3] at c2
      rw [← hk4] at c3
      have HK4 := Lib.hid hk4
      have al := (Below.refl W.heap.size W).alloc (Nat.le_refl _) (.cells #[.int .i64 k1, .int .i64 k2, .int .i64 k3, .string k4, .int .i64 (m : Int)] 87)
      have R1 := Lib.hid (HR.out.below al)
      have B1 := Lib.hid (HB.out.trans (al.mono HB.out.size))
      by_cases hk : p.kind = 2
      · have t2 : (k1 == 2) = true := by rw [beq_iff_eq]; omega
        have HS2 := Lib.hid (show (recs (L.take (i + 1))).map txt = (recs (L.take i)).map txt ++ [k4] by
          rw [HSN.out, if_pos hk, List.map_append, HK4.out]
          rfl)
        obtain ⟨W1, hW1⟩ : ∃ W1, W1 = W.alloc (.cells #[.int .i64 k1, .int .i64 k2, .int .i64 k3, .string k4, .int .i64 (m : Int)] 87) := ⟨_, rfl⟩
        have HW1 := Lib.hid hW1
        have al2 := (Below.refl W1.heap.size W1).alloc (Nat.le_refl _) (.cells #[.string k4] 9)
        rw [← hW1] at R1 B1
        have R2 := Lib.hid (R1.out.below al2)
        have B2 := Lib.hid (B1.out.trans (al2.mono B1.out.size))
        have TX := Lib.hid (text_one W1 k4)
        have R2' := R2
        have TX' := TX
        rw [hW1] at R2' TX'
        replace TX' := Lib.hid (show TextsIn ((W.alloc (.cells #[.int .i64 k1, .int .i64 k2, .int .i64 k3, .string k4, .int .i64 (m : Int)] 87)).alloc (.cells #[.string k4] 9)) (some ⟨W.heap.size + 1, 0, none⟩) [k4] by have := TX'.out; simpa using this)
        have B2' := B2
        rw [hW1] at B2'
        have HLL := Lib.hid (show ((recs (L.take i)).map txt).length + 1 ≤ 1000000 by
          rw [List.length_map]
          have := HRL.out i
          omega)
        clear hr hb hi hp hk1 hk2 hk3 hk4 al al2 hk hW1
        go_wp2_with (at_builtin; refine app_row rfl _ _ rfl w.heap.size _ _ rfl R2'.out (some ⟨W.heap.size + 1, 0, none⟩) 1 [k4] rfl TX'.out (fun h => by cases h) (Nat.le_refl _) HLL.out B2'.out.size ?_; intro v4 w4 r4 g4 n4)
        have R4 := Lib.hid (show RowT w4 w.heap.size v4 ((recs (L.take (i + 1))).map txt) by rw [HS2.out]; exact r4)
        have B4 := Lib.hid (B2'.out.trans ((Below.refl w.heap.size _).grown g4 B2'.out.size fun q hq => (OwnsM.lt R2'.out q hq).1))
        clear r4 g4 n4
        go_roundg (N - (i + 1))
        case measure => have := HI.out; omega
        case rel => exact ⟨i + 1, by omega, by go_num, R4.out, B4.out⟩
      · have t2 : (k1 == 2) = false := by rw [beq_eq_false_iff_ne]; omega
        have HS2 := Lib.hid (show recs (L.take (i + 1)) = recs (L.take i) by rw [HSN.out, if_neg hk, List.append_nil])
        clear hr hb hi hp hk1 hk2 hk3 hk4 al hk
        go_wp2
        go_roundg (N - (i + 1))
        case measure => have := HI.out; omega
        case rel => exact ⟨i + 1, by omega, by go_num, by rw [HS2.out]; exact R1.out, B1.out⟩
end Go.Proofs.YtajkldmpllphjaaDoor
