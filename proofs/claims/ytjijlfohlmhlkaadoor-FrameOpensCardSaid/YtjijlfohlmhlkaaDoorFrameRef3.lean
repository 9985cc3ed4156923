/-
  The document's own Open of chapter 9. No conditions but those typed.
-/
import Derived.Test.YtjijlfohlmhlkaaDoorFrameRef
import Derived.Test.YtjijlfohlmhlkaaDoorFrameOpenMath
import Derived.Deep.Cut
import Derived.Deep.CutRange
import Derived.Deep.CutBlock
import Derived.Deep.RegionHeld3
import Derived.OwnWalk
namespace Go.Proofs.YtjijlfohlmhlkaaDoor
open Go.RowKit FrameMath TextNat

/-- Bytes of a row from a place on, as a text. -/
theorem text_from (w : World) (g a cap : Nat) (D : List Nat) (hD : ∀ b ∈ D, b < 256) (hc : ∀ (j z : Nat), D[j]? = some z → w.cell? ⟨g, a + j, none⟩ = some (.int .u8 (z : Int))) :
    (convert 36 9 (.slice (some ⟨g, a, none⟩) D.length cap)).run Tryd.prog w = .ok (.string (txt D)) w := by
  have h := run_convert_bytes_back (P := Tryd.prog) w 36 9 5 ⟨g, a, none⟩ cap (D.map UInt8.ofNat) Tryd.underlying36 Tryd.underlying5 Tryd.underlying9 (fun j hj => by
    have hj' : j < D.length := by simpa using hj
    rw [WideShapes.add_plain, hc j _ (List.getElem?_eq_getElem hj')]
    have hb := hD D[j] (List.getElem_mem hj')
    simp [Nat.mod_eq_of_lt hb])
  rw [List.length_map] at h
  exact h
/-- What the document's Open answers. -/
def RefOpenIs (s : ByteArray) (k : Int) (e : Ending) : Prop :=
  match openF (nats s) k with
  | some p => e = .returned (.tuple #[.string (txt p), .int .i64 (k + ((framed p).length : Int)), .bool true])
  | none => e = .returned (.tuple #[.string ⟨#[]⟩, .int .i64 k, .bool false])
theorem RefOpenIs.none {s : ByteArray} {k : Int} {e : Ending} (h : openF (nats s) k = Option.none) (he : e = .returned (.tuple #[.string ⟨#[]⟩, .int .i64 k, .bool false])) : RefOpenIs s k e := by
  unfold RefOpenIs
  rw [h]
  exact he
theorem RefOpenIs.some {s : ByteArray} {k : Int} {e : Ending} {p : List Nat} (h : openF (nats s) k = Option.some p) (he : e = .returned (.tuple #[.string (txt p), .int .i64 (k + ((framed p).length : Int)), .bool true])) : RefOpenIs s k e := by
  unfold RefOpenIs
  rw [h]
  exact he
theorem RefOpenIs.is {s P : ByteArray} {k z : Int} {e : Ending} {p : List Nat} (h : openF (nats s) k = Option.some p) (hP : P = txt p) (hz : z = k + ((framed p).length : Int)) (he : e = .returned (.tuple #[.string P, .int .i64 z, .bool true])) : RefOpenIs s k e :=
  .some h (by rw [he, hP, hz])
set_option maxRecDepth 100000 in
set_option maxHeartbeats 8000000 in
theorem refOpen (s : ByteArray) (k : Int) (w : World) (hs : s.size ≤ 1000000) (hk : I64 k) :
    Calls Tryd.prog 14 #[.string s, .int .i64 k] w fun e w' => RefOpenIs s k e ∧ Below w.heap.size w w' := by
  have HB0 := Lib.hid (Below.refl w.heap.size w)
  by_cases h0 : k < 0
  · have t0 : decide (k < 0) = true := decide_eq_true h0
    have HX := Lib.hid (openF_out (l := nats s) (k := k) (.inl h0))
    clear h0
    go_enter Tryd.func14, Tryd.ntmps14
    go_wp2
    go_ret3
    exact ⟨RefOpenIs.none HX.out rfl, HB0.out⟩
  have t0 : decide (k < 0) = false := decide_eq_false h0
  obtain ⟨i, rfl⟩ : ∃ i : Nat, k = (i : Int) := ⟨k.toNat, by omega⟩
  by_cases h1 : s.size ≤ i
  · have t1 : decide ((s.size : Int) ≤ (i : Int)) = true := decide_eq_true (by omega)
    have t1' : decide (s.size ≤ i) = true := decide_eq_true h1
    have HX := Lib.hid (openF_out (l := nats s) (k := (i : Int)) (.inr (by rw [nats_len]; omega)))
    clear h0 h1
    go_enter Tryd.func14, Tryd.ntmps14
    go_wp2
    go_ret3
    exact ⟨RefOpenIs.none HX.out rfl, HB0.out⟩
  have t1 : decide ((s.size : Int) ≤ (i : Int)) = false := decide_eq_false (by omega)
  have t1' : decide (s.size ≤ i) = false := decide_eq_false h1
  have hi : i < s.size := by omega
  obtain ⟨z, hz⟩ : ∃ z, z = (s[i]'hi).toNat := ⟨_, rfl⟩
  have hzx : ((s[i]'hi).toNat : Int) = (z : Int) := by rw [hz]
  have hat : (nats s)[i]? = some z := by rw [hz]; exact nats_at s i hi
  by_cases hz1 : z = 1
  case neg =>
    have t2 : ((z : Int) == 1) = false := by rw [beq_eq_false_iff_ne]; omega
    have t2' : ((z : Int) != 1) = true := by rw [bne, t2]; rfl
    have HX := Lib.hid (openF_not hat hz1)
    clear h0 h1 hz hat hz1
    go_enter Tryd.func14, Tryd.ntmps14
    go_wp2
    go_ret3
    exact ⟨RefOpenIs.none HX.out rfl, HB0.out⟩
  case pos =>
    rw [hz1] at hat hzx
    have HAT := Lib.hid hat
    have n1 : IntKind.i64.wrap ((i : Int) + 1) = ((i + 1 : Nat) : Int) := by rw [IntKind.wrap_i64]; omega
    clear h0 h1 hz hat hz1 z
    obtain ⟨r, hr⟩ : ∃ r, r = (nats s).drop (i + 1) := ⟨_, rfl⟩
    have HRL := Lib.hid (show r.length = s.size - (i + 1) by rw [hr, List.length_drop, nats_len])
    have HRA := Lib.hid (show ∀ j : Nat, r[j]? = (nats s)[i + 1 + j]? by intro j; rw [hr, List.getElem?_drop])
    have HR := Lib.hid hr
    clear hr
    have HO := Lib.hid (Own8.made w)
    have HB1 := Lib.hid ((Below.refl w.heap.size w).alloc (Nat.le_refl _) (.cells #[] 5))
    go_enter Tryd.func14, Tryd.ntmps14
    go_upto_block 0 with fail
    go_cut [7, 8, 9, 10] from 31 to 70 (fun s7 s8 s9 s10 wx => Own8 wx w.heap.size s7 (bytesOf r) ∧ Below w.heap.size w wx)
    case first =>
      go_wp2_with fail
      go_loopg [7, 8] r.length (fun gh s7 s8 wx => ∃ D : List Nat, 2 * D.length + gh = r.length ∧ s8 = .int .i64 ((i + 1 + 2 * D.length : Nat) : Int) ∧ ReadTo r D ∧ Own8 wx w.heap.size s7 D ∧ Below w.heap.size w wx)
      case atStart => exact ⟨[], by simp, by go_num, ReadTo.start r, HO.out, HB1.out⟩
      case round =>
        obtain ⟨D, hD, rfl, hread, hown, hb⟩ := hrel
        clear HO HB1
        obtain ⟨q, hq⟩ : ∃ q, q = i + 1 + 2 * D.length := ⟨_, rfl⟩
        rw [← hq]
        have k0 : IntKind.i64.wrap ((q : Int) + 1) = (q : Int) + 1 := by rw [IntKind.wrap_i64]; have := HRL.out; omega
        by_cases hin : 2 * D.length + 1 < r.length
        case neg =>
          have u1 : decide ((q : Int) + 1 < (s.size : Int)) = false := decide_eq_false (by have := HRL.out; omega)
          have u1' : decide (q + 1 < s.size) = false := decide_eq_false (by have := HRL.out; omega)
          have HE := Lib.hid (hread.end (by omega))
          have HO := Lib.hid hown
          have HB := Lib.hid hb
          clear hread hown hb hq hD hin
          go_wp2_with fail
          go_meet
          case rel => exact ⟨by rw [← HE.out]; exact HO.out, HB.out⟩
        case pos =>
          have hq0 : q < s.size := by have := HRL.out; omega
          have hq1 : q + 1 < s.size := by have := HRL.out; omega
          have u1 : decide ((q : Int) + 1 < (s.size : Int)) = true := decide_eq_true (by omega)
          have u1' : decide (q + 1 < s.size) = true := decide_eq_true hq1
          obtain ⟨x, hx⟩ : ∃ x, x = (s[q]'hq0).toNat := ⟨_, rfl⟩
          obtain ⟨y, hy⟩ : ∃ y, y = (s[q + 1]'hq1).toNat := ⟨_, rfl⟩
          have hxx : ((s[q]'hq0).toNat : Int) = (x : Int) := by rw [hx]
          have hyy : ((s[q + 1]'hq1).toNat : Int) = (y : Int) := by rw [hy]
          have hx256 : x < 256 := by rw [hx]; exact UInt8.toNat_lt _
          have hy256 : y < 256 := by rw [hy]; exact UInt8.toNat_lt _
          have hrx : r[2 * D.length]? = some x := by rw [HRA.out, ← hq, hx]; exact nats_at s q hq0
          have hry : r[2 * D.length + 1]? = some y := by rw [HRA.out, show i + 1 + (2 * D.length + 1) = q + 1 by omega, hy]; exact nats_at s (q + 1) hq1
          have k1 : IntKind.i64.wrap (x : Int) = (x : Int) := by rw [IntKind.wrap_i64]; omega
          have k2 : IntKind.i64.wrap (y : Int) = (y : Int) := by rw [IntKind.wrap_i64]; omega
          obtain ⟨a, ha⟩ : ∃ a : Int, a = (x : Int) - 64 := ⟨_, rfl⟩
          obtain ⟨b, hbb⟩ : ∃ b : Int, b = (y : Int) - 64 := ⟨_, rfl⟩
          have k3 : IntKind.i64.wrap ((x : Int) - 64) = a := by rw [IntKind.wrap_i64]; omega
          have k4 : IntKind.i64.wrap ((y : Int) - 64) = b := by rw [IntKind.wrap_i64]; omega
          have HQ := Lib.hid hq
          have HAB := Lib.hid (And.intro ha hbb)
          have HXY := Lib.hid (And.intro hx256 hy256)
          have HW := Lib.hid hown
          have HB := Lib.hid hb
          have HRD := Lib.hid hread
          have HRX := Lib.hid hrx
          have HRY := Lib.hid hry
          have HDD := Lib.hid hD
          have HIN := Lib.hid hin
          have HST := Lib.hid (show (a < 0 ∨ 15 < a ∨ b < 0 ∨ 15 < b) ∨ (64 ≤ x ∧ x < 80 ∧ 64 ≤ y ∧ y < 80 ∧ 0 ≤ a ∧ a ≤ 15 ∧ 0 ≤ b ∧ b ≤ 15) by omega)
          clear hread hown hb hq hx hy hrx hry hD hin ha hbb hx256 hy256
          go_wp2_with fail
          go_quiet (fail)
          obtain ⟨w1, hw1⟩ : ∃ w1, w1 = wr.drewN nq := ⟨_, rfl⟩
          have HW1 := Lib.hid (show Own8 w1 w.heap.size u7 D by rw [hw1]; exact HW.out)
          have HB2 := Lib.hid (show Below w.heap.size w w1 by rw [hw1]; exact ⟨HB.out.os, HB.out.tape, HB.out.output, HB.out.size, HB.out.block⟩)
          rw [← hw1]
          clear hw1 HW HB
          cases ta : decide (a < 0) <;> cases tb : decide (15 < a) <;> cases tc : decide (b < 0) <;> cases td : decide (15 < b)
          case' false.false.false.false => skip
          all_goals (try (
            have HN := Lib.hid (show ¬ (64 ≤ x ∧ x < 80 ∧ 64 ≤ y ∧ y < 80) by
              have := HAB.out
              first
                | (have := of_decide_eq_true ta; omega)
                | (have := of_decide_eq_true tb; omega)
                | (have := of_decide_eq_true tc; omega)
                | (have := of_decide_eq_true td; omega))
            have HE := Lib.hid (HRD.out.wrong HRX.out HRY.out HN.out)
            go_wp2_with fail
            go_meet
            case rel => exact ⟨by rw [← HE.out]; exact HW1.out, HB2.out⟩))
          obtain ⟨v, hv⟩ : ∃ v, v = 16 * (x - 64) + (y - 64) := ⟨_, rfl⟩
          have HG := Lib.hid (show 64 ≤ x ∧ x < 80 ∧ 64 ≤ y ∧ y < 80 by
            have := HAB.out
            have := of_decide_eq_false ta
            have := of_decide_eq_false tb
            have := of_decide_eq_false tc
            have := of_decide_eq_false td
            omega)
          have HN := Lib.hid (show ReadTo r (D ++ [v]) by rw [hv]; exact HRD.out.next HRX.out HRY.out HG.out)
          obtain ⟨c, hc⟩ : ∃ c, c = 16 * a := ⟨_, rfl⟩
          have k5 : IntKind.i64.wrap (16 * a) = c := by rw [IntKind.wrap_i64]; have := HAB.out; have := HG.out; omega
          have k6 : IntKind.i64.wrap (c + b) = (v : Int) := by rw [IntKind.wrap_i64]; have := HAB.out; have := HG.out; omega
          have k7 : IntKind.u8.wrap (v : Int) = (v : Int) := by rw [IntKind.wrap_u8]; have := HG.out; omega
          have k8 : IntKind.i64.wrap ((q : Int) + 2) = (q : Int) + 2 := by rw [IntKind.wrap_i64]; omega
          have c5 : Below w1.heap.size w1 (w1.alloc (.cells #[.int .u8 (v : Int)] 5)) := (Below.refl _ _).alloc (Nat.le_refl _) _
          have O5 := Lib.hid (HW1.out.below c5)
          have B5 := Lib.hid (HB2.out.trans (c5.mono HB2.out.size))
          have L5 := Lib.hid (Lies.new w1 (byteVals [v]) 5)
          have HLE := Lib.hid (show D.length + 1 ≤ 1000000 by have := HDD.out; have := HRL.out; omega)
          clear hv hc c5 HW1 HB2
          go_wp2_with (at_builtin; refine app_bytes rfl _ _ rfl w.heap.size _ D rfl O5.out ⟨w1.heap.size, 0, none⟩ 1 1 [v] rfl rfl (lies_news L5.out) HLE.out B5.out.size ?_; intro v2 w2 o2 b2)
          go_roundg (r.length - 2 * (D.length + 1))
          case measure => have := HDD.out; have := HIN.out; omega
          case rel =>
            refine ⟨D ++ [v], ?_, ?_, HN.out, o2, B5.out.trans b2⟩
            · rw [List.length_append, List.length_singleton]
              have := HDD.out
              have := HIN.out
              omega
            · rw [List.length_append, List.length_singleton]
              have := HQ.out
              go_num
    case rest =>
      obtain ⟨ho, hb⟩ := hcut
      clear HO HB1
      have HBL := Lib.hid (bytesOf_lt r)
      obtain ⟨D, hD⟩ : ∃ D, D = bytesOf r := ⟨_, rfl⟩
      rw [← hD] at ho HBL
      have HLL := Lib.hid (show 2 * D.length ≤ r.length by rw [hD]; exact bytesOf_len r)
      obtain ⟨n, hn⟩ : ∃ n, n = D.getD 0 0 * 256 + D.getD 1 0 := ⟨_, rfl⟩
      have HF := Lib.hid (openF_at HAT.out (D := D) (by rw [hD, HR.out]) hn)
      have HDE := Lib.hid hD
      obtain ⟨L, hL⟩ : ∃ L, L = D.length := ⟨_, rfl⟩
      have HL := Lib.hid hL
      have HNE := Lib.hid hn
      have HB := Lib.hid hb
      obtain ⟨pp, cap, hv⟩ := (OwnsM.of ho).shape
      rw [← hL] at hv
      have HO := Lib.hid ho
      clear ho hb hD hn hL
      subst hv
      by_cases h10 : L < 10
      · have u1 : decide ((L : Int) < 10) = true := decide_eq_true (by omega)
        have u1' : decide (L < 10) = true := decide_eq_true h10
        have HX := Lib.hid (show openF (nats s) (i : Int) = none by rw [HF.out, if_pos (by rw [← HL.out]; exact h10)])
        clear h10
        go_wp2_with fail
        go_ret3
        exact ⟨RefOpenIs.none HX.out rfl, HB.out⟩
      have u1 : decide ((L : Int) < 10) = false := decide_eq_false (by omega)
      have u1' : decide (L < 10) = false := decide_eq_false h10
      obtain ⟨g, cap', hv, hgB, hgl, hcap1, hcap2, hcell, -⟩ := (OwnsM.of HO.out).open (by rw [← HL.out]; omega)
      simp only [Value.slice.injEq] at hv
      obtain ⟨rfl, -, rfl⟩ := hv
      obtain ⟨x0, hx0⟩ : ∃ x0, D[0]? = some x0 := ⟨_, List.getElem?_eq_getElem (by rw [← HL.out]; omega)⟩
      obtain ⟨x1, hx1⟩ : ∃ x1, D[1]? = some x1 := ⟨_, List.getElem?_eq_getElem (by rw [← HL.out]; omega)⟩
      have hx0b := HBL.out x0 (List.mem_of_getElem? hx0)
      have hx1b := HBL.out x1 (List.mem_of_getElem? hx1)
      have hCells : ∀ (j z : Nat), D[j]? = some z → wc.cell? ⟨g, j, none⟩ = some (.int .u8 (z : Int)) := fun j z hz => by
        rw [hcell j (List.getElem?_eq_some_iff.1 hz).1, byteVals_at, hz]
        rfl
      have d0 := hCells 0 x0 hx0
      have d1 := hCells 1 x1 hx1
      have hnx : n = x0 * 256 + x1 := by
        rw [HNE.out, List.getD_eq_getElem?_getD, List.getD_eq_getElem?_getD, hx0, hx1]
        rfl
      have HC := Lib.hid hCells
      have HCP := Lib.hid (show L ≤ cap by rw [HL.out]; exact hcap1)
      have HLs := Lib.hid (show L ≤ 1000000 by have := HLL.out; have := HRL.out; have := HL.out; omega)
      have k1 : IntKind.i64.wrap (x0 : Int) = (x0 : Int) := by rw [IntKind.wrap_i64]; omega
      have k2 : IntKind.i64.wrap (x1 : Int) = (x1 : Int) := by rw [IntKind.wrap_i64]; omega
      obtain ⟨y0, hy0⟩ : ∃ y0, y0 = x0 * 256 := ⟨_, rfl⟩
      have k3 : IntKind.i64.wrap ((x0 : Int) * 256) = (y0 : Int) := by rw [IntKind.wrap_i64]; omega
      have k4 : IntKind.i64.wrap ((y0 : Int) + (x1 : Int)) = (n : Int) := by rw [IntKind.wrap_i64]; omega
      obtain ⟨l10, hl10⟩ : ∃ l10, l10 = L - 10 := ⟨_, rfl⟩
      have k5 : IntKind.i64.wrap ((L : Int) - 10) = (l10 : Int) := by rw [IntKind.wrap_i64]; have := HLs.out; omega
      have hn70 : n ≤ 70000 := by omega
      have hL1 : 1 < L := by omega
      have hL0 : 0 < L := by omega
      have HL10 := Lib.hid (show 10 ≤ L ∧ l10 = L - 10 by omega)
      clear hCells hcell hgB hx0 hx1 hnx hy0 hl10 hcap1 hcap2 h10
      go_upto_region 12 with fail
      go_quiet (fail)
      obtain ⟨w1, hw1⟩ : ∃ w1, w1 = wc.drewN nq := ⟨_, rfl⟩
      have HC1 := Lib.hid (show ∀ (j z : Nat), D[j]? = some z → w1.cell? ⟨g, j, none⟩ = some (.int .u8 (z : Int)) by rw [hw1]; exact HC.out)
      have HO1 := Lib.hid (show Own8 w1 w.heap.size (.slice (some ⟨g, 0, none⟩) L cap) D by rw [hw1]; exact HO.out)
      have HB1 := Lib.hid (show Below w.heap.size w w1 by rw [hw1]; exact ⟨HB.out.os, HB.out.tape, HB.out.output, HB.out.size, HB.out.block⟩)
      have HG1 := Lib.hid (show g < w1.heap.size by rw [hw1]; exact hgl)
      rw [← hw1]
      clear hw1 HO HB HC d0 d1 hgl
      by_cases hbig : 8192 < n ∨ l10 < n
      · have HX := Lib.hid (show openF (nats s) (i : Int) = none by rw [HF.out, if_neg (by have := HL10.out; have := HL.out; omega), if_pos (by have := HL10.out; have := HL.out; omega)])
        cases u2 : decide (8192 < n) <;> cases u3 : decide (l10 < n)
        · exact absurd hbig (by have := of_decide_eq_false u2; have := of_decide_eq_false u3; omega)
        all_goals
          have u2' : decide ((8192 : Int) < (n : Int)) = decide (8192 < n) := by rw [Bool.eq_iff_iff]; simp; omega
          have u3' : decide ((l10 : Int) < (n : Int)) = decide (l10 < n) := by rw [Bool.eq_iff_iff]; simp
          rw [u2] at u2'
          rw [u3] at u3'
          clear hbig
          go_wp2_with fail
          go_ret3
          exact ⟨RefOpenIs.none HX.out rfl, HB1.out⟩
      have u2 : decide ((8192 : Int) < (n : Int)) = false := decide_eq_false (by omega)
      have u2' : decide (8192 < n) = false := decide_eq_false (by omega)
      have u3 : decide ((l10 : Int) < (n : Int)) = false := decide_eq_false (by omega)
      have u3' : decide (l10 < n) = false := decide_eq_false (by omega)
      have hn8 : n ≤ 8192 := by omega
      have hnl : n ≤ l10 := by omega
      have HF2 := Lib.hid (show openF (nats s) (i : Int) = if rawF ((D.drop 6).take n) = D.take (10 + n) then some ((D.drop 6).take n) else none by
        rw [HF.out, if_neg (by have := HL10.out; have := HL.out; omega), if_neg (by have := HL10.out; have := HL.out; omega)])
      obtain ⟨e6, he6⟩ : ∃ e6, e6 = 6 + n := ⟨_, rfl⟩
      obtain ⟨e10, he10⟩ : ∃ e10, e10 = 10 + n := ⟨_, rfl⟩
      have k6 : IntKind.i64.wrap (6 + (n : Int)) = (e6 : Int) := by rw [IntKind.wrap_i64]; omega
      have k7 : IntKind.i64.wrap (10 + (n : Int)) = (e10 : Int) := by rw [IntKind.wrap_i64]; omega
      have h6e : 6 ≤ e6 := by omega
      have h6c : e6 ≤ cap := by have := HCP.out; have := HL10.out; omega
      have h10c : e10 ≤ cap := by have := HCP.out; have := HL10.out; omega
      have hcap6 : ¬ cap = 6 := by have := HCP.out; have := HL10.out; omega
      have hcap0 : ¬ cap = 0 := by omega
      obtain ⟨pl, hpl⟩ : ∃ pl, pl = (D.drop 6).take n := ⟨_, rfl⟩
      have hpln : pl.length = n := by rw [hpl, List.length_take, List.length_drop]; have := HL10.out; have := HL.out; omega
      have hplb : ∀ b ∈ pl, b < 256 := fun b hb => HBL.out b (by rw [hpl] at hb; exact List.mem_of_mem_drop (List.mem_of_mem_take hb))
      have hplc : ∀ (j z : Nat), pl[j]? = some z → w1.cell? ⟨g, 6 + j, none⟩ = some (.int .u8 (z : Int)) := fun j z hz => by
        rw [hpl, List.getElem?_take] at hz
        split at hz
        · rw [List.getElem?_drop] at hz
          exact HC1.out _ _ hz
        · cases hz
      have kw := text_from w1 g 6 (cap - 6) pl hplb hplc
      rw [hpln, show n = e6 - 6 by omega] at kw
      have HPL := Lib.hid hpl
      have hR := refRaw (txt pl)
      have hts : (txt pl).size ≤ 10000 := by rw [txt_len, hpln]; omega
      have HR := Lib.hid (show ∀ w2 : World, Calls Tryd.prog 22 #[.string (txt pl)] w2 fun e w' => (∃ v B, e = .returned v ∧ w2.heap.size ≤ B ∧ Own8 w' B v (rawF pl)) ∧ Below w2.heap.size w2 w' by
        intro w2
        have := hR w2 hts
        rw [nats_txt pl hplb] at this
        exact this)
      have HRB := Lib.hid (rawF_bytes (p := pl) (by rw [hpln]; omega) hplb)
      have HRN := Lib.hid (rawF_len pl)
      have HPN := Lib.hid hpln
      obtain ⟨R, hRR⟩ : ∃ R, R = rawF pl := ⟨_, rfl⟩
      rw [← hRR] at HR HRB HRN
      have HRR := Lib.hid hRR
      obtain ⟨P, hP⟩ : ∃ P, P = txt pl := ⟨_, rfl⟩
      rw [← hP] at kw HR
      have HPP := Lib.hid hP
      have hyl : (D.take e10).length = e10 := by rw [List.length_take]; have := HL10.out; have := HL.out; omega
      have HYB := Lib.hid (show ∀ b ∈ D.take e10, b < 256 from fun b hb => HBL.out b (List.mem_of_mem_take hb))
      have HYW := Lib.hid (show ∀ w2 : World, Below w1.heap.size w1 w2 → (convert 36 9 (.slice (some ⟨g, 0, none⟩) e10 cap)).run Tryd.prog w2 = .ok (.string (txt (D.take e10))) w2 by
        intro w2 hb2
        have h := text_from w2 g 0 cap (D.take e10) HYB.out (fun j z hz => by
          rw [Nat.zero_add]
          rw [List.getElem?_take] at hz
          split at hz
          · exact (hb2.cell (p := ⟨g, j, none⟩) HG1.out).trans (HC1.out j z hz)
          · cases hz)
        rw [hyl] at h
        exact h)
      obtain ⟨q, hq⟩ : ∃ q, q = !decide (txt R = txt (D.take e10)) := ⟨_, rfl⟩
      have kn : ∀ w2 : World, (binOp .neq 9 (.string (txt R)) (.string (txt (D.take e10)))).run Tryd.prog w2 = .ok (.bool q) w2 := fun w2 => by rw [neq_text, hq]
      obtain ⟨X, hX⟩ : ∃ X, X = txt R := ⟨_, rfl⟩
      obtain ⟨Y, hY⟩ : ∃ Y, Y = txt (D.take e10) := ⟨_, rfl⟩
      have HXX := Lib.hid hX
      have HYY := Lib.hid hY
      have HQQ := Lib.hid hq
      rw [← hX, ← hY] at kn
      rw [← hY] at HYW
      have HWS := Lib.hid (fun w2 (h : Below w1.heap.size w1 w2) => HB1.out.trans (h.mono HB1.out.size))
      have hbd : Below w1.heap.size w1 w1.drew := Below.drew (Below.refl _ _)
      have ky := HYW.out w1.drew hbd
      have HE6 := Lib.hid he6
      have HE10 := Lib.hid he10
      clear hpl hR hRR hP hX hY hq hbig hplc hplb hpln hyl he6 he10 hts
      go_upto_region 16 with fail
      clear kw
      go_region_with (first
        | (go_at_call 22
           refine (HR.out _).mono ?_
           rintro e w4 ⟨⟨v4, B4, rfl, hB4, ho4⟩, hb0⟩
           have hb4 : Below w1.heap.size w1 w4 := ⟨hb0.os, hb0.tape, hb0.output, hb0.size, hb0.block⟩
           have ky4 := HYW.out w4 hb4
           obtain ⟨g4, cap4, rfl, hg4, hc4⟩ := ho4.cells (by rw [HRN.out]; omega)
           have kx4 := text_from w4 g4 0 cap4 R HRB.out (fun j z hz => by rw [Nat.zero_add]; exact hc4 j z hz)
           rw [← HXX.out] at kx4
           clear hc4 ho4 hb0))
      all_goals
        have HB4 := Lib.hid (HWS.out w4 hb4)
        clear hb4 ky4 kx4 ky
        cases q with
        | true =>
          have HX2 := Lib.hid (show openF (nats s) (i : Int) = none by
            rw [HF2.out, if_neg]
            intro he
            have h1 := HQQ.out
            rw [HRR.out, HPL.out, he, HE10.out] at h1
            simp at h1)
          have hne := text_list (show ¬ X = Y by rw [HXX.out, HYY.out]; have := HQQ.out; simpa using this)
          go_wp2_with fail
          all_goals first
            | (go_ret3; exact ⟨RefOpenIs.none HX2.out rfl, HB4.out⟩)
            | (exfalso; rename_i h9; simp [hne] at h9; done)
        | false =>
          have HX2 := Lib.hid (show openF (nats s) (i : Int) = some pl by
            have h1 : txt R = txt (D.take e10) := by
              have := HQQ.out
              simpa using this
            have h2 := congrArg nats h1
            rw [nats_txt R HRB.out, nats_txt _ HYB.out, HRR.out, HE10.out] at h2
            rw [HF2.out, ← HPL.out, if_pos h2])
          have heq : X.toList = Y.toList := by rw [HXX.out, HYY.out]; have := HQQ.out; simp at this; rw [this]
          have k9 : IntKind.i64.wrap (2 * (e10 : Int)) = 2 * (e10 : Int) := by rw [IntKind.wrap_i64]; have := HE10.out; omega
          have k10 : IntKind.i64.wrap ((i : Int) + 1 + 2 * (e10 : Int)) = (i : Int) + 1 + 2 * (e10 : Int) := by rw [IntKind.wrap_i64]; have := HE10.out; omega
          have hz := Lib.hid (show (i : Int) + 1 + 2 * (e10 : Int) = (i : Int) + ((framed pl).length : Int) by rw [framed_len, HPN.out]; have := HE10.out; omega)
          go_wp2_with fail
          all_goals first
            | (go_ret3; exact ⟨RefOpenIs.is HX2.out HPP.out hz.out rfl, HB4.out⟩)
            | (exfalso; rename_i h9; simp [heq] at h9; done)
end Go.Proofs.YtjijlfohlmhlkaaDoor
