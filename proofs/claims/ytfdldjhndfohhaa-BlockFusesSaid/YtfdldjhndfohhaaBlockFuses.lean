/-
  BlockFuses' contract: with a fuse just so many operations are done. The conditions: the program's contracts; the texts' cells.
-/
import Derived.Test.YtfdldjhndfohhaaBlockAwake
import Derived.Test.YtfdldjhndfohhaaBlockIn
namespace Go.Proofs.Ytfdldjhndfohhaa
open Go.RowKit BlockMath TextNat

/-- An error that lies between two worlds' blocks. -/
structure ErrX (lo hi : Nat) (w : World) (n c : Int) (x : Value) : Prop where
  le : hi ≤ w.heap.size
  is_ : ∀ w2 : World, hi ≤ w2.heap.size → (∀ k, lo ≤ k → k < hi → w2.heap[k]? = w.heap[k]?) → ErrAt w2 name n c x
theorem ErrX.of {B : Nat} {w : World} {n c : Int} {x : Value} (h : ErrNew B w n c x) : ErrX B w.heap.size w n c x := ⟨Nat.le_refl _, h⟩
theorem ErrX.is {lo hi : Nat} {w : World} {n c : Int} {x : Value} (h : ErrX lo hi w n c x) : ErrIs w c x := (h.is_ w h.le fun _ _ _ => rfl).is
theorem ErrX.keep {lo hi : Nat} {w w2 : World} {n c : Int} {x : Value} (h : ErrX lo hi w n c x) (hs : w.heap.size ≤ w2.heap.size) (hk : ∀ k, lo ≤ k → k < hi → w2.heap[k]? = w.heap[k]?) : ErrX lo hi w2 n c x :=
  ⟨Nat.le_trans h.le hs, fun w3 h3 k3 => h.is_ w3 h3 fun k h1 h2 => (k3 k h1 h2).trans (hk k h1 h2)⟩
set_option maxRecDepth 100000 in
set_option maxHeartbeats 4000000 in
theorem fuses_true {D : Dev} (hN : NewOk D) (hA : AppendOk D) (hS : SyncOk D) (hC : CrashOk D) (hL : LenOk D) (hR : ReadOk D) (hF : FuseOk D) (hD : DownOk D) (hU : CutOk D) (hT : RotOk D)
    (pp : Option Addr) (cap : Nat) (xs : List ByteArray) (n : Nat) (c : ByteArray) (w : World) (hn : n ≤ 255) (hc : c.size ≤ 9223372036854775807) (hI : TextsIn w pp xs) (hx : xs.length ≤ 9223372036854775807) (hxc : xs.length ≤ cap) (hxs : ∀ x ∈ xs, x.size ≤ 9223372036854775807) :
    Calls Try.prog 4 #[.slice pp xs.length cap, .int .u8 (n : Int), .string c] w fun e w' => e = .returned (.bool true) ∧ Below w.heap.size w w' := by
  have HA := Lib.hid (awake_true hN hA hS hC hL hR w)
  replace hN := Lib.hid fun w => hN 1048576 w (by decide)
  replace hA := Lib.hid hA
  replace hL := Lib.hid hL
  replace hS := Lib.hid hS
  replace hC := Lib.hid hC
  replace hR := Lib.hid hR
  replace hF := Lib.hid hF
  replace hD := Lib.hid hD
  replace hU := Lib.hid hU
  replace hT := Lib.hid hT
  replace hI := Lib.hid hI
  replace hxs := Lib.hid hxs
  obtain ⟨N, hN'⟩ : ∃ N, N = xs.length := ⟨_, rfl⟩
  have HN := Lib.hid hN'
  rw [← hN'] at hx hxc ⊢
  clear hN'
  go_enter Try.func4, Try.ntmps4
  go_wp2_with fail
  refine HA.out.mono ?_
  rintro e w0 ⟨rfl, hb⟩
  have HB := Lib.hid hb
  have HW := Lib.hid hb.size
  clear HA hb
  go_wp2_with fail
  refine (hN.out _).mono ?_
  rintro e w1 ⟨h1, hb⟩
  rw [if_pos (by decide)] at h1
  obtain ⟨b, rfl, hd⟩ := h1
  replace HB := Lib.hid (HB.out.trans (hb.mono HB.out.size))
  have HD := Lib.hid hd
  have OK := Lib.hid (Ok.new (r := 1048576) (by omega) (by omega))
  have HL := Lib.hid hb.size
  clear hb hd hN
  by_cases h1 : 100 < N
  · have t1 : decide ((100 : Int) < (N : Int)) = true := decide_eq_true (by omega)
    have t1' : decide (100 < N) = true := decide_eq_true h1
    go_wp2
    go_ret
    exact ⟨rfl, HB.out⟩
  have t1 : decide ((100 : Int) < (N : Int)) = false := decide_eq_false (by omega)
  have t1' : decide (100 < N) = false := decide_eq_false h1
  by_cases h2 : 3000 < c.size
  · have t2 : decide ((3000 : Int) < (c.size : Int)) = true := decide_eq_true (by omega)
    have t2' : decide (3000 < c.size) = true := decide_eq_true h2
    go_wp2
    go_ret
    exact ⟨rfl, HB.out⟩
  have t2 : decide ((3000 : Int) < (c.size : Int)) = false := decide_eq_false (by omega)
  have t2' : decide (3000 < c.size) = false := decide_eq_false h2
  have n1 : IntKind.i64.wrap (n : Int) = (n : Int) := by rw [IntKind.wrap_i64]; omega
  go_wp2_with fail
  refine (fuse_has hF.out HD.out HL.out OK.out (n : Int) (by omega)).mono ?_
  rintro e w2 ⟨rfl, hd, hb⟩
  replace HL := Lib.hid (Nat.le_trans HL.out hb.size)
  replace HB := Lib.hid (HB.out.trans (hb.mono HW.out))
  replace OK := Lib.hid (OK.out.fuse (n := (n : Int)) (by omega))
  rw [fz_start] at OK hd
  replace HD := Lib.hid hd
  clear hd hb hF t1 t1' t2 t2'
  go_wp2_with fail
  go_loopg [9, 39] N (fun gh s9 s39 wx => ∃ (i : Nat) (L : ByteArray), i + gh = N ∧ s9 = .string L ∧ s39 = .int .i64 (i : Int) ∧ L.size ≤ 3000 * i ∧ Hid (Has D w0.heap.size wx b (fz n i L)) ∧ Hid (Ok (fz n i L)) ∧ Hid (Below w.heap.size w wx) ∧ Hid (w0.heap.size ≤ wx.heap.size))
  case atStart => exact ⟨0, ByteArray.empty, by omega, rfl, by go_num, by decide, HD, OK, HB, HL⟩
  case round =>
    obtain ⟨i, L, hi, rfl, rfl, hLs, HD2, OK2, HB2, HL2⟩ := hrel
    rename World => W2
    clear HB HD OK HL
    by_cases hiN : i < N
    · have t1 : decide ((i : Int) < (N : Int)) = true := decide_eq_true (by omega)
      have t1' : decide (i < N) = true := decide_eq_true hiN
      obtain ⟨s, hs⟩ : ∃ s, xs[i]? = some s := ⟨_, List.getElem?_eq_getElem (by rw [← HN.out]; exact hiN)⟩
      obtain ⟨b', off, rfl, hy⟩ := (hI.out.grown (HB2.out.mono (Nat.le_refl _))) i s hs
      have hs1 := hxs.out s (List.mem_of_getElem? hs)
      clear hs
      by_cases h3 : 3000 < s.size
      · have t3 : decide ((3000 : Int) < (s.size : Int)) = true := decide_eq_true (by omega)
        have t3' : decide (3000 < s.size) = true := decide_eq_true h3
        go_wp2
        go_ret
        exact ⟨rfl, HB2.out⟩
      have t3 : decide ((3000 : Int) < (s.size : Int)) = false := decide_eq_false (by omega)
      have t3' : decide (3000 < s.size) = false := decide_eq_false h3
      go_wp2_with fail
      refine (append_has hA.out HD2.out HL2.out OK2.out s (by omega)).mono ?_
      rintro e w3 ⟨⟨x, rfl, hx⟩, hd, hb⟩
      have HL3 := Lib.hid (Nat.le_trans HL2.out hb.size)
      have HB3 := Lib.hid (HB2.out.trans (hb.mono HW.out))
      have OK3 := Lib.hid (OK2.out.append s)
      clear hy t3 t3' OK2 HB2 HL2 HD2
      by_cases hin : i < n
      · have t4 : decide ((i : Int) < (n : Int)) = true := decide_eq_true (by omega)
        have t4' : decide (i < n) = true := decide_eq_true hin
        rw [fz_in hin (by omega)] at hx hd OK3
        obtain rfl := hx.zero rfl
        replace hd := Lib.hid hd
        clear hx hb
        go_wp2
        go_roundg (N - (i + 1))
        case measure => omega
        case rel => exact ⟨i + 1, L ++ s, by omega, rfl, by go_num, by rw [ByteArray.size_append]; omega, hd, OK3, HB3, HL3⟩
      · have t4 : decide ((i : Int) < (n : Int)) = false := decide_eq_false (by omega)
        have t4' : decide (i < n) = false := decide_eq_false hin
        rw [fz_out (by omega) (by omega)] at hx hd OK3
        have HX := Lib.hid (hx.not (by show (5 : Int) ≠ 0; decide)).is
        obtain ⟨T, y, rfl⟩ := HX.out.iface
        replace hd := Lib.hid hd
        clear hx hb
        go_wp2_with fail
        refine (is_err HX.out 5).mono ?_
        rintro e w4 ⟨rfl, rfl⟩
        go_wp2
        go_roundg (N - (i + 1))
        case measure => omega
        case rel => exact ⟨i + 1, L, by omega, rfl, by go_num, by omega, hd, OK3, HB3, HL3⟩
    · have t1 : decide ((i : Int) < (N : Int)) = false := decide_eq_false (by omega)
      have t1' : decide (i < N) = false := decide_eq_false hiN
      obtain rfl : i = N := by omega
      have EO := Lib.hid (show (fz n i L).off = decide (n < i) from rfl)
      have EA := Lib.hid (show all (fz n i L) = L from fz_all n i L)
      have EL := Lib.hid (show (fz n i L).late = L from rfl)
      clear hiN hi
      generalize fz n i L = d at HD2 OK2 EO EA EL
      go_wp2_with fail
      refine (down_has hD.out HD2.out OK2.out).mono ?_
      rintro e w3 ⟨rfl, hd, hb⟩
      replace HL2 := Lib.hid (Nat.le_trans HL2.out hb.size)
      replace HB2 := Lib.hid (HB2.out.trans (hb.mono HB2.out.size))
      replace HD2 := Lib.hid hd
      clear hd hb
      by_cases hni : n < i
      · have t2 : decide ((n : Int) < (i : Int)) = true := decide_eq_true (by omega)
        have t2' : decide (n < i) = true := decide_eq_true hni
        replace EO := Lib.hid (EO.out.trans t2')
        rw [EO.out]
        go_wp2_with fail
        refine (down_has hD.out HD2.out OK2.out).mono ?_
        rintro e w4 ⟨rfl, hd, hb⟩
        replace HL2 := Lib.hid (Nat.le_trans HL2.out hb.size)
        replace HB2 := Lib.hid (HB2.out.trans (hb.mono HB2.out.size))
        replace HD2 := Lib.hid hd
        clear hd hb
        rw [EO.out]
        go_wp2_with fail
        obtain ⟨S, hs, ks⟩ := HD2.out.own
        have hlt := D.lt hs
        refine (hR.out b S d 0 0 w4 hs OK2.out (by decide) (by decide)).mono ?_
        rintro e w5 ⟨⟨x, rfl, hx⟩, hb⟩
        rw [read_off 0 0 EO.out] at hx ⊢
        have HX := Lib.hid (ErrX.of (hx.not (by show (5 : Int) ≠ 0; decide)))
        have HD5 := Lib.hid (show HasH D w0.heap.size w4.heap.size w5.heap.size w5 b d from ⟨S, D.stays hs hb.size fun j hj => hb.block j (hlt j hj), fun j hj => ⟨ks j hj, Or.inl (hlt j hj)⟩⟩)
        have HH := Lib.hid (Nat.le_refl w5.heap.size)
        replace HL2 := Lib.hid (Nat.le_trans HL2.out hb.size)
        replace HB2 := Lib.hid (HB2.out.trans (hb.mono HB2.out.size))
        clear hx hb hs ks hlt S HD2
        go_wp2_with fail
        obtain ⟨S, hs, ks⟩ := HD5.out.own
        refine (hA.out b S d c _ hs OK2.out (by omega)).mono ?_
        rintro e w6 ⟨⟨y, rfl, hy⟩, hq⟩
        rw [append_off c EO.out] at hy hq
        obtain ⟨hd, hb, hk⟩ := hq.hasH HL2.out HH.out ks
        have HY := Lib.hid (hy.not (by show (5 : Int) ≠ 0; decide)).is
        obtain ⟨T, z, ez⟩ := HY.out.iface
        subst ez
        replace HX := Lib.hid ((HX.out).keep hb.size hk)
        replace HL2 := Lib.hid (Nat.le_trans HL2.out hb.size)
        replace HH := Lib.hid (Nat.le_trans HH.out hb.size)
        replace HB2 := Lib.hid (HB2.out.trans (hb.mono HW.out))
        replace HD5 := Lib.hid hd
        clear hd hb hy hk hq hs ks S
        go_wp2_with fail
        refine (is_err HY.out 5).mono ?_
        rintro e w7 ⟨rfl, rfl⟩
        clear HY
        go_wp2_with fail
        obtain ⟨S, hs, ks⟩ := HD5.out.own
        refine (hS.out b S d _ hs OK2.out).mono ?_
        rintro e w6 ⟨⟨y, rfl, hy⟩, hq⟩
        rw [sync_off EO.out] at hy hq
        obtain ⟨hd, hb, hk⟩ := hq.hasH HL2.out HH.out ks
        have HY := Lib.hid (hy.not (by show (5 : Int) ≠ 0; decide)).is
        obtain ⟨T, z, ez⟩ := HY.out.iface
        subst ez
        replace HX := Lib.hid ((HX.out).keep hb.size hk)
        replace HL2 := Lib.hid (Nat.le_trans HL2.out hb.size)
        replace HH := Lib.hid (Nat.le_trans HH.out hb.size)
        replace HB2 := Lib.hid (HB2.out.trans (hb.mono HW.out))
        replace HD5 := Lib.hid hd
        clear hd hb hy hk hq hs ks S
        go_wp2_with fail
        refine (is_err HY.out 5).mono ?_
        rintro e w7 ⟨rfl, rfl⟩
        clear HY
        go_wp2_with fail
        obtain ⟨S, hs, ks⟩ := HD5.out.own
        refine (hU.out b S d 0 _ hs OK2.out (by decide)).mono ?_
        rintro e w6 ⟨⟨y, rfl, hy⟩, hq⟩
        rw [cut_off 0 EO.out] at hy hq
        obtain ⟨hd, hb, hk⟩ := hq.hasH HL2.out HH.out ks
        have HY := Lib.hid (hy.not (by show (5 : Int) ≠ 0; decide)).is
        obtain ⟨T, z, ez⟩ := HY.out.iface
        subst ez
        replace HX := Lib.hid ((HX.out).keep hb.size hk)
        replace HL2 := Lib.hid (Nat.le_trans HL2.out hb.size)
        replace HH := Lib.hid (Nat.le_trans HH.out hb.size)
        replace HB2 := Lib.hid (HB2.out.trans (hb.mono HW.out))
        replace HD5 := Lib.hid hd
        clear hd hb hy hk hq hs ks S
        go_wp2_with fail
        refine (is_err HY.out 5).mono ?_
        rintro e w7 ⟨rfl, rfl⟩
        clear HY
        obtain ⟨T, z, ez⟩ := HX.out.is.iface
        subst ez
        go_wp2_with fail
        refine (is_err HX.out.is 5).mono ?_
        rintro e w8 ⟨rfl, rfl⟩
        clear HX HH
        replace HD2 := Lib.hid HD5.out.has
        clear HD5
        go_wp2_with fail
        refine (rot_has hT.out HD2.out HL2.out OK2.out 0 (by decide) 1 (by decide)).mono ?_
        rintro e w9 ⟨rfl, hd, hb⟩
        rw [rotD_off 0 1 EO.out] at hd
        rw [rotB_off 0 1 EO.out]
        replace HL2 := Lib.hid (Nat.le_trans HL2.out hb.size)
        replace HB2 := Lib.hid (HB2.out.trans (hb.mono HW.out))
        replace HD2 := Lib.hid hd
        clear hd hb
        go_wp2_with fail
        refine (crash_has hC.out HD2.out HL2.out OK2.out (L.size : Int) (by omega) ⟨#[]⟩ (by decide)).mono ?_
        rintro e w9 ⟨rfl, hd, hb⟩
        replace HL2 := Lib.hid (Nat.le_trans HL2.out hb.size)
        replace HB2 := Lib.hid (HB2.out.trans (hb.mono HW.out))
        replace OK2 := Lib.hid (OK2.out.crash (L.size : Int) ⟨#[]⟩)
        have he : crash (L.size : Int) ⟨#[]⟩ d = ⟨L, ByteArray.empty, d.room, -1, false⟩ := by
          have := crash_all d
          rw [EL.out, EA.out] at this
          exact this
        rw [he] at hd OK2
        have FO := Lib.hid (show (⟨L, ByteArray.empty, d.room, -1, false⟩ : Dk).off = false from rfl)
        have FA := Lib.hid (show all (⟨L, ByteArray.empty, d.room, -1, false⟩ : Dk) = L from ba_end L)
        replace HD2 := Lib.hid hd
        clear hd hb he EO EA EL
        generalize (⟨L, ByteArray.empty, d.room, -1, false⟩ : Dk) = d2 at FO FA HD2 OK2
        go_wp2_with fail
        refine (len_has hL.out HD2.out OK2.out).mono ?_
        rintro e w10 ⟨rfl, hd, hb⟩
        replace HB2 := Lib.hid (HB2.out.trans (hb.mono HB2.out.size))
        replace HD2 := Lib.hid hd
        clear hd hb
        go_wp2_with fail
        refine (read_has hR.out HD2.out OK2.out 0 (size d2) (by decide) (by rw [size_on FO.out, FA.out]; omega)).mono ?_
        rintro e w11 ⟨⟨x, rfl, hx⟩, hd, hb⟩
        rw [read_on FO.out] at hx ⊢
        obtain rfl := hx.zero rfl
        have hq : ((all d2, (0 : Int)) : ByteArray × Int).1 = L := FA.out
        rw [hq]
        replace HB2 := Lib.hid (HB2.out.trans (hb.mono HB2.out.size))
        replace HD2 := Lib.hid hd
        clear hd hb hx hq
        go_wp2_with fail
        refine (down_has hD.out HD2.out OK2.out).mono ?_
        rintro e w12 ⟨rfl, hd, hb⟩
        rw [FO.out]
        replace HB2 := Lib.hid (HB2.out.trans (hb.mono HB2.out.size))
        clear hd hb
        go_wp2
        go_ret
        exact ⟨by simp, HB2.out⟩
      · have t2 : decide ((n : Int) < (i : Int)) = false := decide_eq_false (by omega)
        have t2' : decide (n < i) = false := decide_eq_false hni
        replace EO := Lib.hid (EO.out.trans t2')
        rw [EO.out]
        go_wp2_with fail
        refine (down_has hD.out HD2.out OK2.out).mono ?_
        rintro e w4 ⟨rfl, hd, hb⟩
        replace HL2 := Lib.hid (Nat.le_trans HL2.out hb.size)
        replace HB2 := Lib.hid (HB2.out.trans (hb.mono HB2.out.size))
        replace HD2 := Lib.hid hd
        clear hd hb
        rw [EO.out]
        go_wp2_with fail
        refine (crash_has hC.out HD2.out HL2.out OK2.out (L.size : Int) (by omega) ⟨#[]⟩ (by decide)).mono ?_
        rintro e w9 ⟨rfl, hd, hb⟩
        replace HL2 := Lib.hid (Nat.le_trans HL2.out hb.size)
        replace HB2 := Lib.hid (HB2.out.trans (hb.mono HW.out))
        replace OK2 := Lib.hid (OK2.out.crash (L.size : Int) ⟨#[]⟩)
        have he : crash (L.size : Int) ⟨#[]⟩ d = ⟨L, ByteArray.empty, d.room, -1, false⟩ := by
          have := crash_all d
          rw [EL.out, EA.out] at this
          exact this
        rw [he] at hd OK2
        have FO := Lib.hid (show (⟨L, ByteArray.empty, d.room, -1, false⟩ : Dk).off = false from rfl)
        have FA := Lib.hid (show all (⟨L, ByteArray.empty, d.room, -1, false⟩ : Dk) = L from ba_end L)
        replace HD2 := Lib.hid hd
        clear hd hb he EO EA EL
        generalize (⟨L, ByteArray.empty, d.room, -1, false⟩ : Dk) = d2 at FO FA HD2 OK2
        go_wp2_with fail
        refine (len_has hL.out HD2.out OK2.out).mono ?_
        rintro e w10 ⟨rfl, hd, hb⟩
        replace HB2 := Lib.hid (HB2.out.trans (hb.mono HB2.out.size))
        replace HD2 := Lib.hid hd
        clear hd hb
        go_wp2_with fail
        refine (read_has hR.out HD2.out OK2.out 0 (size d2) (by decide) (by rw [size_on FO.out, FA.out]; omega)).mono ?_
        rintro e w11 ⟨⟨x, rfl, hx⟩, hd, hb⟩
        rw [read_on FO.out] at hx ⊢
        obtain rfl := hx.zero rfl
        have hq : ((all d2, (0 : Int)) : ByteArray × Int).1 = L := FA.out
        rw [hq]
        replace HB2 := Lib.hid (HB2.out.trans (hb.mono HB2.out.size))
        replace HD2 := Lib.hid hd
        clear hd hb hx hq
        go_wp2_with fail
        refine (down_has hD.out HD2.out OK2.out).mono ?_
        rintro e w12 ⟨rfl, hd, hb⟩
        rw [FO.out]
        replace HB2 := Lib.hid (HB2.out.trans (hb.mono HB2.out.size))
        clear hd hb
        go_wp2
        go_ret
        exact ⟨by simp, HB2.out⟩
end Go.Proofs.Ytfdldjhndfohhaa
