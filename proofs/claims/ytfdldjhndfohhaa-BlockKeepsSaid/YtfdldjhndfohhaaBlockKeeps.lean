/-
  BlockKeeps' contract: what was synced is there behind any crash. The conditions: the program's contracts; the operations' cells.
-/
import Derived.Test.YtfdldjhndfohhaaBlockAwake
import Derived.Test.YtfdldjhndfohhaaBlockGreat
import Derived.Test.YtfdldjhndfohhaaBlockKeepMath
import Derived.Test.YtfdldjhndfohhaaMark
import Derived.Test.YtfdldjhndfohhaaTextEq
import Derived.Test.YtfdldjhndfohhaaOwnBytes
namespace Go.Proofs.Ytfdldjhndfohhaa
open Go.RowKit BlockMath TextNat

theorem byteVals_nats' (s : ByteArray) : (s.data.toList.map fun b => Value.int .u8 (b.toNat : Int)) = byteVals (nats s) := by
  unfold byteVals nats
  rw [List.map_map]
  rfl
set_option maxRecDepth 100000 in
set_option maxHeartbeats 4000000 in
theorem keeps_true {D : Dev} (hN : NewOk D) (hA : AppendOk D) (hS : SyncOk D) (hC : CrashOk D) (hL : LenOk D) (hR : ReadOk D) (hU : CutOk D) (hZ : SafeOk D)
    (pp : Option Addr) (cap : Nat) (xs : List OpV) (l m : ByteArray) (k : Int) (w : World) (hk : I64 k) (hl : l.size ≤ 9223372036854775807) (hm : m.size ≤ 9223372036854775807) (hI : OpsIn w pp xs) (hxs : ∀ x ∈ xs, x.right) :
    Calls Try.prog 3 #[.slice pp xs.length cap, .agg #[.string l, .int .i64 k, .string m]] w fun e w' => e = .returned (.bool true) ∧ Below w.heap.size w w' := by
  have HB := Lib.hid (show Below w.heap.size w (w.alloc (.cells #[.string l, .int .i64 k, .string m] 24)) from (Below.refl _ _).alloc (Nat.le_refl _) _)
  have HO := Lib.hid (Lies.new w [.string l, .int .i64 k, .string m] 24)
  have HA := Lib.hid (awake_true hN hA hS hC hL hR (w.alloc (.cells #[.string l, .int .i64 k, .string m] 24)))
  replace hN := Lib.hid fun w => hN 1048576 w (by decide)
  replace hA := Lib.hid hA
  replace hL := Lib.hid hL
  replace hS := Lib.hid hS
  replace hC := Lib.hid hC
  replace hR := Lib.hid hR
  replace hU := Lib.hid hU
  replace hZ := Lib.hid hZ
  replace hI := Lib.hid hI
  have HG := Lib.hid (fun w hI => great_ok pp cap xs w hI hxs)
  replace hxs := Lib.hid hxs
  obtain ⟨N, hN'⟩ : ∃ N, N = xs.length := ⟨_, rfl⟩
  have HN := Lib.hid hN'
  rw [← hN'] at HG ⊢
  clear hN'
  go_enter Try.func3, Try.ntmps3
  go_wp2_with fail
  refine HA.out.mono ?_
  rintro e w0 ⟨rfl, hb⟩
  replace HB := Lib.hid (HB.out.trans (hb.mono HB.out.size))
  replace HO := Lib.hid (HO.out.below hb)
  have HW := Lib.hid HB.out.size
  clear HA hb
  go_wp2_with fail
  refine (hN.out _).mono ?_
  rintro e w1 ⟨h1, hb⟩
  rw [if_pos (by decide)] at h1
  obtain ⟨b, rfl, hd⟩ := h1
  replace HB := Lib.hid (HB.out.trans (hb.mono HB.out.size))
  replace HO := Lib.hid (HO.out.below hb)
  have HD := Lib.hid hd
  have OK := Lib.hid (Ok.new (r := 1048576) (by omega) (by omega))
  have HL := Lib.hid hb.size
  clear hb hd hN
  have c0 := HO.out.cell (i := 0) rfl
  have c1 := HO.out.cell (i := 1) rfl
  have c2 := HO.out.cell (i := 2) rfl
  go_wp2_with fail
  go_quiet (fail)
  replace HL := Lib.hid (show w0.heap.size ≤ (w1.drewN nq).heap.size from HL.out)
  replace HB := Lib.hid (drawn_below nq HB.out)
  replace HD := Lib.hid (HD.out.below (drawn_below nq (Below.refl w1.heap.size w1)))
  clear c0 c1 c2 HO
  generalize w1.drewN nq = w2 at HB HD HL ⊢
  clear w1
  go_wp2_with fail
  refine (HG.out w2 (hI.out.grown (HB.out.mono (Nat.le_refl _)))).mono ?_
  rintro e w3 ⟨rfl, rfl⟩
  cases hg : greatB xs with
  | true =>
    go_wp2
    go_ret
    exact ⟨rfl, HB.out⟩
  | false =>
    obtain ⟨hn300, hx3000⟩ := great_no hg
    replace hx3000 := Lib.hid hx3000
    clear hg HG
    rw [← HN.out] at hn300
    by_cases h1 : 3000 < l.size
    · have t1 : decide ((3000 : Int) < (l.size : Int)) = true := decide_eq_true (by omega)
      have t1' : decide (3000 < l.size) = true := decide_eq_true h1
      go_wp2
      go_ret
      exact ⟨rfl, HB.out⟩
    have t1 : decide ((3000 : Int) < (l.size : Int)) = false := decide_eq_false (by omega)
    have t1' : decide (3000 < l.size) = false := decide_eq_false h1
    by_cases h2 : 3000 < m.size
    · have t2 : decide ((3000 : Int) < (m.size : Int)) = true := decide_eq_true (by omega)
      have t2' : decide (3000 < m.size) = true := decide_eq_true h2
      go_wp2
      go_ret
      exact ⟨rfl, HB.out⟩
    have t2 : decide ((3000 : Int) < (m.size : Int)) = false := decide_eq_false (by omega)
    have t2' : decide (3000 < m.size) = false := decide_eq_false h2
    go_wp2_with fail
    clear t1 t1' t2 t2'
    have ON := Lib.hid On.new
    have hsz : (all (new 1048576)).size ≤ 3000 * 0 := by decide
    go_loopg [46] N (fun gh s46 wx => ∃ (i : Nat) (d : Dk), i + gh = N ∧ s46 = .int .i64 (i : Int) ∧ Hid (On d) ∧ (all d).size ≤ 3000 * i ∧ Hid (Has D w0.heap.size wx b d) ∧ Hid (Ok d) ∧ Hid (Below w.heap.size w wx) ∧ Hid (w0.heap.size ≤ wx.heap.size))
    case atStart => exact ⟨0, _, by omega, by go_num, ON, hsz, HD, OK, HB, HL⟩
    case round =>
      obtain ⟨i, d, hi, rfl, ON2, hs2, HD2, OK2, HB2, HL2⟩ := hrel
      rename World => W2
      clear HB HD OK HL ON hsz
      by_cases hiN : i < N
      · have t1 : decide ((i : Int) < (N : Int)) = true := decide_eq_true (by omega)
        have t1' : decide (i < N) = true := decide_eq_true hiN
        obtain ⟨x, hx⟩ : ∃ x, xs[i]? = some x := ⟨_, List.getElem?_eq_getElem (by rw [← HN.out]; exact hiN)⟩
        obtain ⟨b', off, rfl, c0, c1, c2, c3⟩ := (hI.out.grown (HB2.out.mono (Nat.le_refl _))).at hx
        have hr := (hxs.out x (List.mem_of_getElem? hx))
        have hsx := (hx3000.out x (List.mem_of_getElem? hx))
        obtain ⟨xk, xs', xn, xm⟩ := x
        have hA3 : Below W2.heap.size W2 (W2.alloc (.cells #[.int .i64 xk, .string xs', .int .i64 xn, .int .i64 xm] 33)) := (Below.refl _ _).alloc (Nat.le_refl _) _
        have HO3 := Lib.hid (Lies.new W2 [.int .i64 xk, .string xs', .int .i64 xn, .int .i64 xm] 33)
        have HD3 := Lib.hid (HD2.out.below hA3)
        have HB3 := Lib.hid (HB2.out.trans (hA3.mono HB2.out.size))
        have HL3 := Lib.hid (Nat.le_trans HL2.out hA3.size)
        have o0 := HO3.out.cell (i := 0) rfl
        have o1 := HO3.out.cell (i := 1) rfl
        have o2 := HO3.out.cell (i := 2) rfl
        have hn3 := hr.2.2.1
        have hs3 : xs'.size ≤ 3000 := hsx
        simp only at c0 c1 c2 c3
        clear hx hr hsx hA3
        by_cases hk0 : xk = 0
        · have u1 : (xk == 0) = true := by rw [beq_iff_eq]; exact hk0
          clear hk0
          go_wp2_with fail
          refine (append_has hA.out HD3.out HL3.out OK2.out xs' (by omega)).mono ?_
          rintro e w4 ⟨⟨v, rfl, -⟩, hd, hb⟩
          have HL4 := Lib.hid (Nat.le_trans HL3.out hb.size)
          have HB4 := Lib.hid (HB3.out.trans (hb.mono HW.out))
          have OK4 := Lib.hid (OK2.out.append xs')
          rw [ON2.out.append (by omega)] at hd OK4
          have HD4 := Lib.hid hd
          have ON4 := Lib.hid (ON2.out.app xs')
          have hs4 := app_size d xs'
          clear hd hb
          go_wp2
          go_roundg (N - (i + 1))
          case measure => omega
          case rel => exact ⟨i + 1, _, by omega, by go_num, ON4, by omega, HD4, OK4, HB4, HL4⟩
        · have u1 : (xk == 0) = false := by rw [beq_eq_false_iff_ne]; exact hk0
          by_cases hk2 : xk = 2
          · have u2 : (xk == 2) = true := by rw [beq_iff_eq]; exact hk2
            clear hk2
            go_wp2_with fail
            refine (cut_has hU.out HD3.out HL3.out OK2.out xn hn3).mono ?_
            rintro e w4 ⟨⟨v, rfl, -⟩, hd, hb⟩
            have HL4 := Lib.hid (Nat.le_trans HL3.out hb.size)
            have HB4 := Lib.hid (HB3.out.trans (hb.mono HW.out))
            have OK4 := Lib.hid (OK2.out.cut xn)
            have HD4 := Lib.hid hd
            obtain ⟨on4, hs4⟩ := ON2.out.cut xn
            have ON4 := Lib.hid on4
            clear hd hb on4
            go_wp2
            go_roundg (N - (i + 1))
            case measure => omega
            case rel => exact ⟨i + 1, _, by omega, by go_num, ON4, by omega, HD4, OK4, HB4, HL4⟩
          · have u2 : (xk == 2) = false := by rw [beq_eq_false_iff_ne]; exact hk2
            go_wp2
            go_roundg (N - (i + 1))
            case measure => omega
            case rel => exact ⟨i + 1, d, by omega, by go_num, ON2, by omega, HD3, OK2, HB3, HL3⟩
      · have t1 : decide ((i : Int) < (N : Int)) = false := decide_eq_false (by omega)
        have t1' : decide (i < N) = false := decide_eq_false hiN
        have hs3 : (all d).size ≤ 900000 := by omega
        clear hs2 hiN hi hxs hx3000
        go_wp2_with fail
        refine (sync_has hS.out HD2.out HL2.out OK2.out).mono ?_
        rintro e w3 ⟨⟨v, rfl, hv⟩, hd, hb⟩
        rw [ON2.out.is] at hv hd
        obtain rfl := hv.zero rfl
        generalize all d = V at hs3 hd
        replace HL2 := Lib.hid (Nat.le_trans HL2.out hb.size)
        replace HB2 := Lib.hid (HB2.out.trans (hb.mono HW.out))
        replace HD2 := Lib.hid (show Has D w0.heap.size w3 b (dk V ByteArray.empty) from hd)
        replace OK2 := Lib.hid (show Ok (dk V ByteArray.empty) from Ok.dk (by show V.size + 0 ≤ _; omega))
        clear hd hb hv ON2 hS
        go_wp2_with fail
        refine (len_has hL.out HD2.out OK2.out).mono ?_
        rintro e w4 ⟨rfl, hd, hb⟩
        rw [dk_size]
        replace HL2 := Lib.hid (Nat.le_trans HL2.out hb.size)
        replace HB2 := Lib.hid (HB2.out.trans (hb.mono HB2.out.size))
        replace HD2 := Lib.hid hd
        clear hd hb
        go_wp2_with fail
        refine (read_has hR.out HD2.out OK2.out 0 (V.size : Int) (by decide) (by omega)).mono ?_
        rintro e w5 ⟨⟨v, rfl, hv⟩, hd, hb⟩
        rw [dk_read] at hv ⊢
        obtain rfl := hv.zero rfl
        replace HL2 := Lib.hid (Nat.le_trans HL2.out hb.size)
        replace HB2 := Lib.hid (HB2.out.trans (hb.mono HB2.out.size))
        replace HD2 := Lib.hid hd
        clear hd hb hv
        go_wp2_with fail
        refine (append_has hA.out HD2.out HL2.out OK2.out l (by omega)).mono ?_
        rintro e w6 ⟨⟨v, rfl, hv⟩, hd, hb⟩
        rw [dk_append (by omega)] at hv hd
        obtain rfl := hv.zero rfl
        replace HL2 := Lib.hid (Nat.le_trans HL2.out hb.size)
        replace HB2 := Lib.hid (HB2.out.trans (hb.mono HW.out))
        replace HD2 := Lib.hid hd
        replace OK2 := Lib.hid (show Ok (dk V l) from Ok.dk (by omega))
        clear hd hb hv
        go_wp2_with fail
        refine (crash_has hC.out HD2.out HL2.out OK2.out k hk m (by omega)).mono ?_
        rintro e w7 ⟨rfl, hd, hb⟩
        replace OK2 := Lib.hid (OK2.out.crash k m)
        rw [dk_crash] at hd OK2
        have HR1 := Lib.hid (rest_le l m k)
        have HR2 := Lib.hid (fun i c => rest_at l m k (i := i) (c := c))
        have HR3 := Lib.hid (show m.size = 0 → rest l m k = l.extract 0 (rest l m k).size from fun h => by
          obtain rfl : m = ByteArray.empty := ByteArray.size_eq_zero_iff.1 h
          exact rest_nil l k)
        replace HL2 := Lib.hid (Nat.le_trans HL2.out hb.size)
        replace HB2 := Lib.hid (HB2.out.trans (hb.mono HW.out))
        replace HD2 := Lib.hid hd
        clear hd hb
        generalize rest l m k = R at HR1 HR2 HR3 HD2 OK2
        have HS1 := Lib.hid (show (V ++ R).size = V.size + R.size from ByteArray.size_append)
        have hS1 : V.size ≤ (V ++ R).size ∧ (V ++ R).size ≤ V.size + l.size := by rw [ByteArray.size_append]; have := HR1.out; omega
        obtain ⟨hS0, hS1⟩ := hS1
        have HS2 := Lib.hid (take_left V R)
        have HS3 := Lib.hid (take_right V R)
        generalize V ++ R = S at HS1 hS0 hS1 HS2 HS3 HD2 OK2
        go_wp2_with fail
        refine (len_has hL.out HD2.out OK2.out).mono ?_
        rintro e w8 ⟨rfl, hd, hb⟩
        rw [dk_size]
        replace HL2 := Lib.hid (Nat.le_trans HL2.out hb.size)
        replace HB2 := Lib.hid (HB2.out.trans (hb.mono HB2.out.size))
        replace HD2 := Lib.hid hd
        clear hd hb
        have hr1 := HR1.out
        go_wp2_with fail
        refine (read_has hR.out HD2.out OK2.out 0 (S.size : Int) (by decide) (by omega)).mono ?_
        rintro e w9 ⟨⟨v, rfl, hv⟩, hd, hb⟩
        rw [dk_read] at hv ⊢
        obtain rfl := hv.zero rfl
        replace HL2 := Lib.hid (Nat.le_trans HL2.out hb.size)
        replace HB2 := Lib.hid (HB2.out.trans (hb.mono HB2.out.size))
        replace HD2 := Lib.hid hd
        clear hd hb hv
        have v1 : decide ((S.size : Int) < (V.size : Int)) = false := decide_eq_false (by omega)
        have v1' : decide (S.size < V.size) = false := decide_eq_false (by omega)
        have n1 : IntKind.i64.wrap ((V.size : Int) + (l.size : Int)) = (V.size : Int) + (l.size : Int) := by rw [IntKind.wrap_i64]; omega
        have v2 : decide ((V.size : Int) + (l.size : Int) < (S.size : Int)) = false := decide_eq_false (by omega)
        have v2' : decide (V.size + l.size < S.size) = false := decide_eq_false (by omega)
        have hs2 := HS2.out
        go_wp2_with fail
        refine (safe_has hZ.out HD2.out OK2.out).mono ?_
        rintro e w10 ⟨rfl, hd, hb⟩
        rw [show safe (dk S ByteArray.empty) = (S.size : Int) from rfl]
        replace HB2 := Lib.hid (HB2.out.trans (hb.mono HB2.out.size))
        have hs3' := HS3.out
        clear hd hb v1 v1' v2 v2' n1 HD2 OK2 HL2
        have kb := run_bytes_of_string (P := Try.prog) w10 9 41 5 R Try.underlying9 Try.underlying41 Try.underlying5
        have H0 := Lib.hid (OwnsM.ofBytes w10 w10.heap.size 5 R (Nat.le_refl _) (by unfold maxLen; omega))
        have HB3 := Lib.hid (HB2.out.trans ((((Below.refl w10.heap.size w10).drew).alloc (Nat.le_refl _) (.cells (bytesRow R (grownCap w10 R.size 0 5)) 5 ((bytesRow R (grownCap w10 R.size 0 5)).size, (bytesRow R (grownCap w10 R.size 0 5)).size + 1))).mono HB2.out.size))
        go_wp2_with fail
        clear kb
        obtain ⟨cap3, hcap3⟩ : ∃ c, c = grownCap w10 R.size 0 5 := ⟨_, rfl⟩
        rw [← hcap3] at H0 HB3 ⊢
        clear hcap3
        rw [byteVals_nats'] at H0
        replace H0 := Lib.hid (show OwnsM (w10.alloc (.cells (bytesRow R cap3) 5 ((bytesRow R cap3).size, (bytesRow R cap3).size + 1))).drew w10.heap.size 5 (.slice (some ⟨w10.heap.size, 0, none⟩) R.size cap3) R.size (byteVals (nats R)) from H0.out)
        replace HB3 := Lib.hid (show Below w.heap.size w (w10.alloc (.cells (bytesRow R cap3) 5 ((bytesRow R cap3).size, (bytesRow R cap3).size + 1))).drew from HB3.out)
        generalize (w10.alloc (.cells (bytesRow R cap3) 5 ((bytesRow R cap3).size, (bytesRow R cap3).size + 1))).drew = w13 at H0 HB3 ⊢
        go_loopg [130] R.size (fun gh s130 wx => ∃ j : Nat, j + gh = R.size ∧ s130 = .int .i64 (j : Int) ∧ wx = w13)
        case atStart => exact ⟨0, by omega, by go_num, rfl⟩
        case round =>
          obtain ⟨j, hj, rfl, rfl⟩ := hrel
          by_cases hjR : j < R.size
          · have q1 : decide ((j : Int) < (R.size : Int)) = true := decide_eq_true (by omega)
            have q1' : decide (j < R.size) = true := decide_eq_true hjR
            have hjl : j < l.size := by omega
            obtain ⟨c, hc⟩ : ∃ c, c = (l[j]'hjl).toNat := ⟨_, rfl⟩
            obtain ⟨x, hx, hxc⟩ := HR2.out j c hjR (by rw [hc]; exact nats_at l j hjl)
            have hcell := H0.out.cells rfl j (.int .u8 (x : Int)) (by unfold byteVals; rw [List.getElem?_map, hx]; rfl)
            rw [show (⟨w10.heap.size, 0, none⟩ : Addr).add j = ⟨w10.heap.size, j, none⟩ by unfold Addr.add; split <;> simp_all] at hcell
            by_cases hx0 : x = 0
            · subst hx0
              clear hx hxc hc
              go_wp2
              go_roundg (R.size - (j + 1))
              case measure => omega
              case rel => exact ⟨j + 1, by omega, by go_num, rfl⟩
            · obtain rfl : x = c := by omega
              have q2 : ((x : Int) == 0) = false := by rw [beq_eq_false_iff_ne]; omega
              have q3 : ((x : Int) != 0) = true := by rw [bne, q2]; rfl
              have hx9 : ((l[j]'hjl).toNat : Int) = (x : Int) := by rw [hc]
              clear hx hxc hc
              go_wp2_with fail
              go_roundg (R.size - (j + 1))
              case measure => omega
              case rel => exact ⟨j + 1, by omega, by go_num, rfl⟩
          · have q1 : decide ((j : Int) < (R.size : Int)) = false := decide_eq_false (by omega)
            have q1' : decide (j < R.size) = false := decide_eq_false hjR
            go_wp2_with fail
            by_cases hm0 : m = ⟨#[]⟩
            · have kn := none_list hm0
              have n2 : IntKind.i64.wrap ((S.size : Int) - (V.size : Int)) = (R.size : Int) := by rw [IntKind.wrap_i64, HS1.out]; omega
              have hR : l.extract 0 R.size = R := (HR3.out (by rw [hm0]; rfl)).symm
              clear hm0
              go_quiet (fail)
              go_wp2
              go_ret
              exact ⟨rfl, drawn_below _ HB3.out⟩
            · have kn := some_list hm0
              clear hm0
              go_quiet (fail)
              go_wp2
              go_ret
              exact ⟨rfl, drawn_below _ HB3.out⟩
end Go.Proofs.Ytfdldjhndfohhaa
