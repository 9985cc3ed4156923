/-
  The contract of chapter 5's law WireBack: of any things it answers true; old memory is as it was. The conditions: the things' cells.
-/
import Derived.Test.YtpmhfoleafjlbaaWireBackMath
import Derived.Test.YtpmhfoleafjlbaaWireAwake
import Derived.Test.YtpmhfoleafjlbaaWireInVec
import Derived.Test.YtpmhfoleafjlbaaWireInText
import Derived.Test.YtpmhfoleafjlbaaWireSame
namespace Go.Proofs.Ytpmhfoleafjlbaa
open Go.RowKit TextNat

theorem tidy_fine {x : Item} (h : x.small) (hl : x.long = false) : x.tidy.fine := by
  obtain ⟨h1, h2, h3, h4⟩ := h
  unfold Item.long at hl
  simp only [Bool.or_eq_false_iff, decide_eq_false_iff_not] at hl
  unfold Item.tidy
  split
  · exact ⟨by show 0 ≤ (0 : Int) ∧ (0 : Int) ≤ 3; omega, h2, by show x.s.size ≤ _; omega, by show x.vl.length ≤ _; omega⟩
  · exact ⟨by omega, h2, by omega, by omega⟩
set_option maxRecDepth 100000 in
set_option maxHeartbeats 4000000 in
theorem back_true (xs : List Item) (pp : Option Addr) (cap : Nat) (w : World) (hI : ItemsIn w pp xs) (hs : ∀ x ∈ xs, x.small) (hc : xs.length ≤ cap) (hm : cap ≤ maxLen) (hn : pp = none → cap = 0) :
    Calls Try.prog 3 #[.slice pp xs.length cap] w fun e w' => e = .returned (.bool true) ∧ Below w.heap.size w w' := by
  have HA := Lib.hid (fun w1 => awake_true w1)
  have HFw := Lib.hid (fun w1 (h : Below w.heap.size w w1) => few_ok xs pp cap w1 (hI.grown h) hs hc hm hn)
  obtain ⟨N, hN⟩ : ∃ N, N = xs.length := ⟨_, rfl⟩
  rw [← hN] at HFw
  rw [← hN]
  cases hlong : (xs.take 300).any Item.long with
  | true =>
    have HFi := Lib.hid (fun B w1 e (h : FewIs B w1 xs e) => (show e = .returned (.tuple #[.slice none 0 0, .bool false]) by unfold FewIs at h; rw [if_pos hlong] at h; exact h))
    clear hI hs hc hm hn hN hlong
    go_enter Try.func3, Try.ntmps3
    go_wp2_with fail
    refine (HA.out _).mono ?_
    rintro e w2 ⟨rfl, hb2⟩
    go_wp2_with fail
    refine (HFw.out _ hb2).mono ?_
    rintro e w3 ⟨hf, hb3⟩
    obtain rfl := HFi.out _ _ _ hf
    go_wp2_with fail
    go_ret
    exact ⟨rfl, hb2.trans (hb3.mono hb2.size)⟩
  | false =>
    obtain ⟨ys, hys⟩ : ∃ ys, ys = (xs.take 300).map Item.tidy := ⟨_, rfl⟩
    have HFi := Lib.hid (fun B w1 e (h : FewIs B w1 xs e) => (show ∃ g c, e = .returned (.tuple #[.slice (some ⟨g, 0, none⟩) ys.length c, .bool true]) ∧ B ≤ g ∧ g < w1.heap.size ∧ ItemsAt w1 g ys by unfold FewIs at h; rw [if_neg (by rw [hlong]; decide), ← hys] at h; exact h))
    have HFine := Lib.hid (show ∀ y ∈ ys, y.fine from fun y hy => by
      rw [hys] at hy
      obtain ⟨x, hx, rfl⟩ := List.mem_map.1 hy
      refine tidy_fine (hs x (List.mem_of_mem_take hx)) ?_
      cases hl : x.long with
      | false => rfl
      | true =>
        have : (xs.take 300).any Item.long = true := List.any_eq_true.2 ⟨x, hx, hl⟩
        rw [hlong] at this
        cases this)
    have hyl : ys.length ≤ 300 := by rw [hys, List.length_map, List.length_take]; omega
    obtain ⟨M, hM⟩ : ∃ M, M = ys.length := ⟨_, rfl⟩
    rw [← hM] at HFi hyl
    have HM := Lib.hid hM
    obtain ⟨p, hp⟩ : ∃ p, p = WireMath.written (ys.map Item.thing) := ⟨_, rfl⟩
    have HPut := Lib.hid (fun g c w1 hI hg => put_all ys g M c w1 hI hg hM hyl HFine.out)
    rw [← hp] at HPut
    have HP := Lib.hid hp
    have HDn := Lib.hid (fun pb w1 h => done_ok pb p w1 h)
    clear hI hs hc hm hn hN hlong hM hp hys
    obtain ⟨D, bad⟩ := p
    cases bad with
    | some q =>
      obtain ⟨c, k⟩ := q
      have HDi := Lib.hid (fun w1 e (h : DoneIs w1 ⟨D, some (c, k)⟩ e) => (show ∃ T v, e = .returned (.tuple #[.string ⟨#[]⟩, .iface T v]) by
        obtain ⟨r, h1, h2⟩ := h
        obtain ⟨T, v, rfl⟩ := h2.some
        exact ⟨T, v, h1⟩))
      go_enter Try.func3, Try.ntmps3
      go_wp2_with fail
      refine (HA.out _).mono ?_
      rintro e w2 ⟨rfl, hb2⟩
      go_wp2_with fail
      refine (HFw.out _ hb2).mono ?_
      rintro e w3 ⟨hf, hb3⟩
      obtain ⟨g, c1, rfl, hg1, hg2, hit⟩ := HFi.out _ _ _ hf
      have HB3 := Lib.hid (hb2.trans (hb3.mono hb2.size))
      clear hf hb2 hb3
      go_wp2_with fail
      refine (HPut.out g c1 _ hit hg2).mono ?_
      rintro e w4 ⟨ob, rfl, ho1, ho2, hb4⟩
      have HB4 := Lib.hid (HB3.out.trans (hb4.mono HB3.out.size))
      go_wp2_with fail
      refine (HDn.out ob _ ho2).mono ?_
      rintro e w5 ⟨hd, hb5⟩
      obtain ⟨T5, v5, rfl⟩ := HDi.out _ _ hd
      go_wp2_with fail
      go_ret
      exact ⟨rfl, HB4.out.trans (hb5.mono HB4.out.size)⟩
    | none =>
      have HDi := Lib.hid (fun w1 e (h : DoneIs w1 ⟨D, none⟩ e) => (show e = .returned (.tuple #[.string (txt D), .nilIface]) from h))
      obtain ⟨S, hS⟩ : ∃ S, S = txt D := ⟨_, rfl⟩
      rw [← hS] at HDi
      have HS := Lib.hid hS
      have HRd := Lib.hid (fun w1 => inRead_ok S w1)
      clear hS
      go_enter Try.func3, Try.ntmps3
      go_wp2_with fail
      refine (HA.out _).mono ?_
      rintro e w2 ⟨rfl, hb2⟩
      go_wp2_with fail
      refine (HFw.out _ hb2).mono ?_
      rintro e w3 ⟨hf, hb3⟩
      obtain ⟨g, c1, rfl, hg1, hg2, hit⟩ := HFi.out _ _ _ hf
      have HB3 := Lib.hid (hb2.trans (hb3.mono hb2.size))
      clear hf hb2 hb3
      have HIt := Lib.hid hit
      have HG := Lib.hid hg2
      go_wp2_with fail
      refine (HPut.out g c1 _ hit hg2).mono ?_
      rintro e w4 ⟨ob, rfl, ho1, ho2, hb4⟩
      have HB4 := Lib.hid (HB3.out.trans (hb4.mono HB3.out.size))
      have HIt4 := Lib.hid (hit.grown hg2 hb4)
      have HG4 := Lib.hid (Nat.lt_of_lt_of_le hg2 hb4.size)
      have HLt := Lib.hid ho2.bytes
      have HLong := Lib.hid ho2.long
      clear hit hg1 hg2 HIt HG hb4
      go_wp2_with fail
      refine (HDn.out ob _ ho2).mono ?_
      rintro e w5 ⟨hd, hb5⟩
      obtain rfl := HDi.out _ _ hd
      have HB5 := Lib.hid (HB4.out.trans (hb5.mono HB4.out.size))
      have HIt5 := Lib.hid (HIt4.out.grown HG4.out hb5)
      have HG5 := Lib.hid (Nat.lt_of_lt_of_le HG4.out hb5.size)
      clear ho1 ho2 hd hb5 HIt4 HG4
      go_wp2_with fail
      refine (HRd.out _).mono ?_
      rintro e w6 ⟨rfl, hi6, hb6, _⟩
      have HI6 := Lib.hid hi6
      have HB6 := Lib.hid hb6
      have HSz := Lib.hid (show S.size ≤ 65536 by rw [HS.out, txt_len]; exact HLong.out)
      have HNs := Lib.hid (show nats S = D by rw [HS.out, nats_txt _ HLt.out])
      obtain ⟨L, hL⟩ : ∃ L, L = ys.map Item.thing := ⟨_, rfl⟩
      have HL := Lib.hid hL
      rw [← hL] at HP
      have HBad := Lib.hid (show (WireMath.written L).bad = none by rw [← HP.out])
      have HOut := Lib.hid (show (WireMath.written L).out = D by rw [← HP.out])
      clear hi6 hb6 hL
      go_wp2_with fail
      go_loopg [35] M (fun gh s35 wx => ∃ i : Nat, i + gh = M ∧ s35 = .int .i64 (i : Int) ∧ InAt wx w5.heap.size S ⟨WireMath.endAt L i, none⟩ ∧ Below w5.heap.size w5 wx)
      case atStart => exact ⟨0, by omega, by go_num, HI6.out, HB6.out⟩
      case round =>
        obtain ⟨i, hi, rfl, hin, hb⟩ := hrel
        have HIr := Lib.hid hin
        have HBr := Lib.hid hb
        clear hin hb HI6 HB6
        by_cases hiN : i < M
        · have t0 : decide ((i : Int) < (M : Int)) = true := decide_eq_true (by omega)
          have t0' : decide (i < M) = true := decide_eq_true hiN
          obtain ⟨x, hx⟩ : ∃ x, ys[i]? = some x := ⟨_, List.getElem?_eq_getElem (by rw [← HM.out]; exact hiN)⟩
          obtain ⟨c0, c1', c2, c3, c4, hz⟩ := HIt5.out.grown HG5.out HBr.out i x hx
          obtain ⟨⟨hk0, hk3⟩, hn, hs, hv⟩ := HFine.out x (List.mem_of_getElem? hx)
          have HZ5 := Lib.hid (HIt5.out i x hx).2.2.2.2.2
          have hLx : L[i]? = some x.thing := by rw [HL.out, List.getElem?_map, hx]; rfl
          have hat : WireMath.endAt L i ≤ S.size := by
            obtain ⟨b, r, _, _, _, h4⟩ := WireMath.back_step HBad.out hLx
            rw [HOut.out, ← HNs.out, nats_len] at h4
            omega
          have HAt := Lib.hid hat
          have HLx := Lib.hid hLx
          have HWr := Lib.hid (show w5.heap.size < wr.heap.size from HIr.out.lt)
          have hkk : x.k = 0 ∨ x.k = 1 ∨ x.k = 2 ∨ x.k = 3 := by omega
          have HVs := Lib.hid (show x.vl.length ≤ 9223372036854775807 by omega)
          clear hx hk0 hk3 hn hs hv hat hLx
          rcases hkk with hk | hk | hk | hk
          · skip
            have HC := Lib.hid (show ∀ w1, InAt w1 w5.heap.size S ⟨WireMath.endAt L i, none⟩ → Calls Try.prog 18 #[.pointer (some ⟨w5.heap.size, 0, none⟩), .int .i64 4611686018427387903] w1 fun e w' => e = .returned (.int .i64 x.n) ∧ InAt w' w5.heap.size S ⟨WireMath.endAt L (i + 1), none⟩ ∧ But w5.heap.size w1 w' from fun w1 hi => by
              have hm := WireMath.back_num HBad.out (by rw [HOut.out]; exact HLt.out) HLx.out hk
              rw [HOut.out, ← HNs.out] at hm
              have := inNum_ok w5.heap.size S ⟨WireMath.endAt L i, none⟩ 4611686018427387903 w1 hi (by have := HSz.out; omega) HAt.out
              rw [hm.2] at this
              have hn : ((x.thing.n.toNat : Nat) : Int) = x.n := Int.toNat_of_nonneg hm.1
              simp only [hn] at this
              exact this)
            rw [hk] at c0
            have hal : Below wr.heap.size wr (wr.alloc (.cells #[.int .i64 0, .int .i64 x.n, .string x.s, .bool x.b, .slice x.vp x.vl.length x.vc] 36)) := (Below.refl _ _).alloc (Nat.le_refl _) _
            have hal2 : Lies (wr.alloc (.cells #[.int .i64 0, .int .i64 x.n, .string x.s, .bool x.b, .slice x.vp x.vl.length x.vc] 36)) wr.heap.size [.int .i64 0, .int .i64 x.n, .string x.s, .bool x.b, .slice x.vp x.vl.length x.vc] 36 := Lies.new wr _ _
            have d0 := hal2.cell (i := 0) rfl; have d1 := hal2.cell (i := 1) rfl; have d2 := hal2.cell (i := 2) rfl; have d3 := hal2.cell (i := 3) rfl; have d4 := hal2.cell (i := 4) rfl
            have HIa := Lib.hid (HIr.out.below hal)
            have HBa := Lib.hid (HBr.out.trans (hal.mono HBr.out.size))
            have HLi := Lib.hid hal2
            clear hal hal2 hz
            go_wp2_with fail
            obtain ⟨W7, hW7⟩ : ∃ W7, W7 = wr.alloc (.cells #[.int .i64 0, .int .i64 x.n, .string x.s, .bool x.b, .slice x.vp x.vl.length x.vc] 36) := ⟨_, rfl⟩
            rw [← hW7] at d0 d1 d2 d3 d4 HIa HBa HLi ⊢
            clear hW7
            have HId := Lib.hid (show InAt W7.drew w5.heap.size S ⟨WireMath.endAt L i, none⟩ from HIa.out.below (Below.refl _ _).drew)
            go_region_with (go_at_call 18; refine (HC.out _ HId.out).mono ?_; rintro e w8 ⟨rfl, hi8, hb8⟩; have hb9 : But w5.heap.size W7 w8 := But.trans (But.refl _ _).drew hb8; have HIb := Lib.hid hi8; have HBt := Lib.hid hb9; have k1 := HLi.out.but hb9 (Nat.ne_of_gt HWr.out); have e1 := k1.cell (i := 1) rfl; have e2 := k1.cell (i := 2) rfl; have e3 := k1.cell (i := 3) rfl; clear hi8 hb8 hb9 k1)
            all_goals
              go_wp2
              go_roundg (M - (i + 1))
              case measure => omega
              case rel => exact ⟨i + 1, by omega, by go_num, HIb.out, HBa.out.trans (HBt.out.below HBa.out.size)⟩
          · skip
            have HC := Lib.hid (show ∀ w1, InAt w1 w5.heap.size S ⟨WireMath.endAt L i, none⟩ → Calls Try.prog 14 #[.pointer (some ⟨w5.heap.size, 0, none⟩), .int .i64 65536] w1 fun e w' => e = .returned (.string x.s) ∧ InAt w' w5.heap.size S ⟨WireMath.endAt L (i + 1), none⟩ ∧ But w5.heap.size w1 w' from fun w1 hi => by
              have hm := WireMath.back_text HBad.out (by rw [HOut.out]; exact HLt.out) (by rw [HOut.out]; exact HLong.out) HLx.out hk
              rw [HOut.out, ← HNs.out] at hm
              have := inText_ok w5.heap.size S ⟨WireMath.endAt L i, none⟩ 65536 w1 hi (by have := HSz.out; omega) HAt.out
              rw [hm] at this
              have hn : txt x.thing.s = x.s := txt_nats x.s
              simp only [hn] at this
              exact this)
            rw [hk] at c0
            have hal : Below wr.heap.size wr (wr.alloc (.cells #[.int .i64 1, .int .i64 x.n, .string x.s, .bool x.b, .slice x.vp x.vl.length x.vc] 36)) := (Below.refl _ _).alloc (Nat.le_refl _) _
            have hal2 : Lies (wr.alloc (.cells #[.int .i64 1, .int .i64 x.n, .string x.s, .bool x.b, .slice x.vp x.vl.length x.vc] 36)) wr.heap.size [.int .i64 1, .int .i64 x.n, .string x.s, .bool x.b, .slice x.vp x.vl.length x.vc] 36 := Lies.new wr _ _
            have d0 := hal2.cell (i := 0) rfl; have d1 := hal2.cell (i := 1) rfl; have d2 := hal2.cell (i := 2) rfl; have d3 := hal2.cell (i := 3) rfl; have d4 := hal2.cell (i := 4) rfl
            have HIa := Lib.hid (HIr.out.below hal)
            have HBa := Lib.hid (HBr.out.trans (hal.mono HBr.out.size))
            have HLi := Lib.hid hal2
            clear hal hal2 hz
            go_wp2_with fail
            obtain ⟨W7, hW7⟩ : ∃ W7, W7 = wr.alloc (.cells #[.int .i64 1, .int .i64 x.n, .string x.s, .bool x.b, .slice x.vp x.vl.length x.vc] 36) := ⟨_, rfl⟩
            rw [← hW7] at d0 d1 d2 d3 d4 HIa HBa HLi ⊢
            clear hW7
            have HId := Lib.hid (show InAt W7.drew w5.heap.size S ⟨WireMath.endAt L i, none⟩ from HIa.out.below (Below.refl _ _).drew)
            go_region_with (go_at_call 14; refine (HC.out _ HId.out).mono ?_; rintro e w8 ⟨rfl, hi8, hb8⟩; have hb9 : But w5.heap.size W7 w8 := But.trans (But.refl _ _).drew hb8; have HIb := Lib.hid hi8; have HBt := Lib.hid hb9; have k1 := HLi.out.but hb9 (Nat.ne_of_gt HWr.out); have e1 := k1.cell (i := 1) rfl; have e2 := k1.cell (i := 2) rfl; have e3 := k1.cell (i := 3) rfl; clear hi8 hb8 hb9 k1)
            all_goals
              go_wp2
              go_roundg (M - (i + 1))
              case measure => omega
              case rel => exact ⟨i + 1, by omega, by go_num, HIb.out, HBa.out.trans (HBt.out.below HBa.out.size)⟩
          · skip
            have HC := Lib.hid (show ∀ w1, InAt w1 w5.heap.size S ⟨WireMath.endAt L i, none⟩ → Calls Try.prog 15 #[.pointer (some ⟨w5.heap.size, 0, none⟩)] w1 fun e w' => e = .returned (.bool x.b) ∧ InAt w' w5.heap.size S ⟨WireMath.endAt L (i + 1), none⟩ ∧ But w5.heap.size w1 w' from fun w1 hi => by
              have hm := WireMath.back_flag HBad.out (by rw [HOut.out]; exact HLt.out) HLx.out hk
              rw [HOut.out, ← HNs.out] at hm
              have := inFlag_ok w5.heap.size S ⟨WireMath.endAt L i, none⟩ w1 hi (by have := HSz.out; omega) HAt.out
              rw [hm] at this
              exact this)
            rw [hk] at c0
            have hal : Below wr.heap.size wr (wr.alloc (.cells #[.int .i64 2, .int .i64 x.n, .string x.s, .bool x.b, .slice x.vp x.vl.length x.vc] 36)) := (Below.refl _ _).alloc (Nat.le_refl _) _
            have hal2 : Lies (wr.alloc (.cells #[.int .i64 2, .int .i64 x.n, .string x.s, .bool x.b, .slice x.vp x.vl.length x.vc] 36)) wr.heap.size [.int .i64 2, .int .i64 x.n, .string x.s, .bool x.b, .slice x.vp x.vl.length x.vc] 36 := Lies.new wr _ _
            have d0 := hal2.cell (i := 0) rfl; have d1 := hal2.cell (i := 1) rfl; have d2 := hal2.cell (i := 2) rfl; have d3 := hal2.cell (i := 3) rfl; have d4 := hal2.cell (i := 4) rfl
            have HIa := Lib.hid (HIr.out.below hal)
            have HBa := Lib.hid (HBr.out.trans (hal.mono HBr.out.size))
            have HLi := Lib.hid hal2
            clear hal hal2 hz
            go_wp2_with fail
            obtain ⟨W7, hW7⟩ : ∃ W7, W7 = wr.alloc (.cells #[.int .i64 2, .int .i64 x.n, .string x.s, .bool x.b, .slice x.vp x.vl.length x.vc] 36) := ⟨_, rfl⟩
            rw [← hW7] at d0 d1 d2 d3 d4 HIa HBa HLi ⊢
            clear hW7
            have HId := Lib.hid (show InAt W7.drew w5.heap.size S ⟨WireMath.endAt L i, none⟩ from HIa.out.below (Below.refl _ _).drew)
            go_region_with (go_at_call 15; refine (HC.out _ HId.out).mono ?_; rintro e w8 ⟨rfl, hi8, hb8⟩; have hb9 : But w5.heap.size W7 w8 := But.trans (But.refl _ _).drew hb8; have HIb := Lib.hid hi8; have HBt := Lib.hid hb9; have k1 := HLi.out.but hb9 (Nat.ne_of_gt HWr.out); have e1 := k1.cell (i := 1) rfl; have e2 := k1.cell (i := 2) rfl; have e3 := k1.cell (i := 3) rfl; clear hi8 hb8 hb9 k1)
            all_goals
              go_wp2
              go_roundg (M - (i + 1))
              case measure => omega
              case rel => exact ⟨i + 1, by omega, by go_num, HIb.out, HBa.out.trans (HBt.out.below HBa.out.size)⟩
          · skip
            have HC := Lib.hid (show (∀ z ∈ x.vl, z ≤ 1099511627776) → ∀ w1, InAt w1 w5.heap.size S ⟨WireMath.endAt L i, none⟩ → Calls Try.prog 17 #[.pointer (some ⟨w5.heap.size, 0, none⟩)] w1 fun e w' => ∃ pp cap, e = .returned (.slice pp x.vl.length cap) ∧ Ints w' pp x.vl ∧ InAt w' w5.heap.size S ⟨WireMath.endAt L (i + 1), none⟩ ∧ But w5.heap.size w1 w' from fun hsm w1 hi => by
              have hm := WireMath.back_vec HBad.out (by rw [HOut.out]; exact HLt.out) HLx.out hk hsm
              rw [HOut.out, ← HNs.out] at hm
              refine (inVec_ok w5.heap.size S ⟨WireMath.endAt L i, none⟩ w1 hi (by have := HSz.out; omega) HAt.out).mono ?_
              rintro e w' ⟨⟨pp, cap, h1, h2, _⟩, h3, h4⟩
              rw [hm.1] at h1 h2 h3
              rw [hm.2] at h2
              exact ⟨pp, cap, by rw [h1]; simp [Item.thing], h2, h3, h4⟩)
            have HSm : Hid (∀ w1 pa ca, Ints w1 pa x.vl → Ints w1 x.vp x.vl → Calls Try.prog 16 #[.slice pa x.vl.length ca, .slice x.vp x.vl.length x.vc] w1 fun e w' => e = .returned (.bool true) ∧ ∃ n, w' = w1.drewN n) := Lib.hid (fun w1 pa ca h1 h2 => by
              have := sameVec_ok pa x.vp ca x.vc x.vl x.vl w1 h1 h2 HVs.out HVs.out
              simpa using this)
            rw [hk] at c0
            obtain ⟨vp, hvp⟩ : ∃ vp, vp = x.vp := ⟨_, rfl⟩
            obtain ⟨vl, hvl⟩ : ∃ vl, vl = x.vl := ⟨_, rfl⟩
            rw [← hvp] at c4 hz HSm HZ5
            rw [← hvl] at c4 hz HSm HC HVs HZ5
            obtain ⟨K, hK⟩ : ∃ K, K = vl.length := ⟨_, rfl⟩
            rw [← hK] at c4 HSm HC HVs
            have HK := Lib.hid hK
            clear hvp hvl hK
            have hal : Below wr.heap.size wr (wr.alloc (.cells #[.int .i64 3, .int .i64 x.n, .string x.s, .bool x.b, .slice vp K x.vc] 36)) := (Below.refl _ _).alloc (Nat.le_refl _) _
            have hal2 : Lies (wr.alloc (.cells #[.int .i64 3, .int .i64 x.n, .string x.s, .bool x.b, .slice vp K x.vc] 36)) wr.heap.size [.int .i64 3, .int .i64 x.n, .string x.s, .bool x.b, .slice vp K x.vc] 36 := Lies.new wr _ _
            have d0 := hal2.cell (i := 0) rfl; have d1 := hal2.cell (i := 1) rfl; have d2 := hal2.cell (i := 2) rfl; have d3 := hal2.cell (i := 3) rfl; have d4 := hal2.cell (i := 4) rfl
            have HIa := Lib.hid (HIr.out.below hal)
            have HBa := Lib.hid (HBr.out.trans (hal.mono HBr.out.size))
            have HLi := Lib.hid hal2
            have HZa := Lib.hid (hz.grown hal)
            clear hal hal2 hz
            go_wp2_with fail
            obtain ⟨W7, hW7⟩ : ∃ W7, W7 = wr.alloc (.cells #[.int .i64 3, .int .i64 x.n, .string x.s, .bool x.b, .slice vp K x.vc] 36) := ⟨_, rfl⟩
            rw [← hW7] at d0 d1 d2 d3 d4 HIa HBa HLi HZa ⊢
            clear hW7
            have hKs := HVs.out
            go_loopg [65] K (fun gh s65 wx => ∃ j : Nat, j + gh = K ∧ s65 = .int .i64 (j : Int) ∧ wx = W7 ∧ Hid (∀ (q : Nat) (z : Int), q < j → vl[q]? = some z → z ≤ 1099511627776))
            case atStart => exact ⟨0, by omega, by go_num, rfl, Lib.hid (fun q z hq => by omega)⟩
            case round =>
              obtain ⟨j, hj, rfl, rfl, HSml⟩ := hrel
              by_cases hjK : j < K
              · have q0 : decide ((j : Int) < (K : Int)) = true := decide_eq_true (by omega)
                have q0' : decide (j < K) = true := decide_eq_true hjK
                obtain ⟨z, hz⟩ : ∃ z, vl[j]? = some z := ⟨_, List.getElem?_eq_getElem (by rw [← HK.out]; exact hjK)⟩
                obtain ⟨_, b, off, rfl, hcz⟩ := HZa.out j z hz
                have HZz := Lib.hid hz
                clear hz
                by_cases hzb : 1099511627776 < z
                · have q1 : decide ((1099511627776 : Int) < z) = true := decide_eq_true hzb
                  go_wp2
                  go_ret
                  exact ⟨rfl, HB5.out.trans (HBa.out.mono HB5.out.size)⟩
                · have q1 : decide ((1099511627776 : Int) < z) = false := decide_eq_false hzb
                  have HSm2 : Hid (∀ (q : Nat) (y : Int), q < j + 1 → vl[q]? = some y → y ≤ 1099511627776) := Lib.hid (fun q y hq hy => by
                    by_cases hqj : q = j
                    · subst hqj
                      rw [HZz.out] at hy
                      obtain rfl := Option.some.inj hy
                      omega
                    · exact HSml.out q y (by omega) hy)
                  go_wp2
                  go_roundg (K - (j + 1))
                  case measure => omega
                  case rel => exact ⟨j + 1, by omega, by go_num, rfl, HSm2⟩
              · have q0 : decide ((j : Int) < (K : Int)) = false := decide_eq_false (by omega)
                have q0' : decide (j < K) = false := decide_eq_false (by omega)
                have HAll := Lib.hid (show ∀ z ∈ vl, z ≤ 1099511627776 from fun z hz => by
                  obtain ⟨q, hq⟩ := List.getElem?_of_mem hz
                  have := (List.getElem?_eq_some_iff.1 hq).1
                  exact HSml.out q z (by rw [← HK.out] at this; omega) hq)
                go_wp2_with fail
                have HId := Lib.hid (show InAt wr.drew w5.heap.size S ⟨WireMath.endAt L i, none⟩ from HIa.out.below (Below.refl _ _).drew)
                go_region_with (first
                  | (go_at_call 17; refine (HC.out HAll.out _ HId.out).mono ?_; rintro e w8 ⟨pv, cv, rfl, hz8, hi8, hb8⟩; have hb9 : But w5.heap.size wr w8 := But.trans (But.refl _ _).drew hb8; have HIb := Lib.hid hi8; have HBt := Lib.hid hb9; have HZv := Lib.hid hz8; have k1 := HLi.out.but hb9 (Nat.ne_of_gt HWr.out); have e4 := k1.cell (i := 4) rfl; have HZb := Lib.hid (HZ5.out.grown (HBa.out.trans (hb9.below HBa.out.size))); clear hi8 hb8 hb9 k1 hz8)
                  | (go_at_call 16; refine (HSm.out _ _ _ HZv.out HZb.out).mono ?_; rintro e w9 ⟨rfl, nn, rfl⟩))
                all_goals
                  go_wp2
                  go_roundg (M - (i + 1))
                  case measure => omega
                  case rel => exact ⟨i + 1, by omega, by go_num, HIb.out.drewN _, HBa.out.trans ((HBt.out.drewN _).below HBa.out.size)⟩
        · have hiM : i = M := by omega
          have t0 : decide ((i : Int) < (M : Int)) = false := decide_eq_false (by omega)
          have t0' : decide (i < M) = false := decide_eq_false (by omega)
          have HEn := Lib.hid (fun w1 (hi : InAt w1 w5.heap.size S ⟨WireMath.endAt L i, none⟩) => (inEnd_ok w5.heap.size S ⟨WireMath.endAt L i, none⟩ w1 hi).mono (R' := fun e w' => e = .returned .nilIface ∧ Below w1.heap.size w1 w') (by
            rintro e w' ⟨he, hb⟩
            refine ⟨?_, hb⟩
            unfold EndIs at he
            have hf : WireMath.faultAt (nats S) ⟨WireMath.endAt L i, none⟩ = none := by
              unfold WireMath.faultAt
              rw [WireMath.endAt_all (by rw [HL.out, List.length_map, ← HM.out]; exact hiM), HOut.out, HNs.out]
              simp
            rw [hf] at he
            exact he))
          clear hiM
          go_wp2_with (go_at_call 19; refine (HEn.out _ HIr.out).mono ?_; rintro e w9 ⟨rfl, hb9⟩)
          go_ret
          exact ⟨rfl, HB5.out.trans ((HBr.out.trans (hb9.mono HBr.out.size)).mono HB5.out.size)⟩
end Go.Proofs.Ytpmhfoleafjlbaa
