/-
  BlockPlays' contract: whatever is asked of a device, it answers and has what the document says. The conditions: the program's contracts; the operations' cells; the variable that fail.Place reads.
-/
import Derived.Test.YtfdldjhndfohhaaDoorBlockDoes
import Derived.Test.YtfdldjhndfohhaaDoorBlockSame
import Derived.Test.YtfdldjhndfohhaaDoorBlockAwake
import Derived.Test.YtfdldjhndfohhaaDoorBlockGreat
namespace Go.Proofs.YtfdldjhndfohhaaDoor
open Go.RowKit BlockMath TextNat

set_option maxRecDepth 100000 in
set_option maxHeartbeats 8000000 in
theorem plays_true {D : Dev} (hN : NewOk D) (hA : AppendOk D) (hS : SyncOk D) (hC : CrashOk D) (hL : LenOk D) (hR : ReadOk D) (hU : CutOk D) (hO : RoomOk D) (hF : FuseOk D) (hT : RotOk D) (hZ : SafeOk D) (hD : DownOk D)
    (pp : Option Addr) (cap : Nat) (xs : List OpV) (r : Int) (w : World) (hr : I64 r) (hI : OpsIn w pp xs) (hxs : ∀ x ∈ xs, x.right) (hg : Handle w) :
    Calls Tryd.prog 3 #[.int .i64 r, .slice pp xs.length cap] w fun e w' => e = .returned (.bool true) ∧ Below w.heap.size w w' := by
  have HA := Lib.hid (awake_true hN hA hS hC hL hR w)
  have HE := Lib.hid (fun B b v d k s n m W => does_ok (D := D) hA hS hU hR hO hF hC hT B b v d k s n m W)
  have HM := Lib.hid (fun B b v d W => same_ok (D := D) hR hL hZ hD B b v d W)
  replace hN := Lib.hid fun w => hN r w hr
  have HG := Lib.hid (fun w hI => great_ok pp cap xs w hI hxs)
  replace hI := Lib.hid hI
  replace hxs := Lib.hid hxs
  have HH := Lib.hid hg
  have HHl := Lib.hid hg.lt
  obtain ⟨N, hN'⟩ : ∃ N, N = xs.length := ⟨_, rfl⟩
  have HN := Lib.hid hN'
  rw [← hN'] at HG ⊢
  clear hN' hA hS hC hL hR hU hO hF hT hZ hD hg
  go_enter Tryd.func3, Tryd.ntmps3
  go_wp2_with fail
  refine HA.out.mono ?_
  rintro e w0 ⟨rfl, hb⟩
  have HB := Lib.hid hb
  have HB0 := Lib.hid hb.size
  clear HA hb
  go_wp2_with fail
  refine (hN.out w0).mono ?_
  rintro e w1 ⟨h1, hb⟩
  replace HB := Lib.hid (HB.out.trans (hb.mono HB.out.size))
  clear hN hb
  by_cases hr2 : 0 ≤ r ∧ r ≤ 1048576
  · rw [if_pos hr2] at h1
    obtain ⟨b, rfl, hd⟩ := h1
    have HD := Lib.hid hd
    clear hd
    go_wp2_with fail
    refine (refNew r w1).mono ?_
    rintro e w2 ⟨h2, hb2⟩
    rw [if_pos hr2] at h2
    obtain ⟨rfl, hrd⟩ := h2
    have hpair : Pair D w.heap.size w2 b w1.heap.size (new r) := by
      obtain ⟨S, hs, hk⟩ := HD.out.own
      have hlt := D.lt hs
      have hB2 := HB.out.trans (hb2.mono HB.out.size)
      refine ⟨⟨S, D.stays hs hb2.size fun j hj => hb2.block j (hlt j hj), fun k hk2 => ?_, fun hk2 => Nat.lt_irrefl _ (hlt _ hk2)⟩, hrd, Ok.new hr2.1 hr2.2, HB.out.size, hB2.size, HH.out.below hB2 HHl.out, HHl.out⟩
      have := hk k hk2
      have := HB0.out
      omega
    replace HB := Lib.hid (HB.out.trans (hb2.mono HB.out.size))
    have HP := Lib.hid hpair
    generalize w1.heap.size = v at HP ⊢
    clear hb2 hrd HD hpair HB0 hr2
    go_wp2_with fail
    refine (HG.out w2 (hI.out.grown HB.out)).mono ?_
    rintro e w3 ⟨rfl, rfl⟩
    cases hgr : greatB xs with
    | true =>
      go_wp2
      go_ret
      exact ⟨rfl, HB.out⟩
    | false =>
      obtain ⟨hn300, hx3000⟩ := great_no hgr
      replace hx3000 := Lib.hid hx3000
      clear hgr HG
      rw [← HN.out] at hn300
      go_wp2_with fail
      go_loopg [50] N (fun gh s50 wx => ∃ (i : Nat) (d : Dk), i + gh = N ∧ s50 = .int .i64 (i : Int) ∧ Hid (Pair D w.heap.size wx b v d) ∧ Hid (Below w.heap.size w wx))
      case atStart => exact ⟨0, _, by omega, by go_num, HP, HB⟩
      case round =>
        obtain ⟨i, d, hi, rfl, HP2, HB2⟩ := hrel
        rename World => W2
        clear HB HP
        by_cases hiN : i < N
        · have t1 : decide ((i : Int) < (N : Int)) = true := decide_eq_true (by omega)
          have t1' : decide (i < N) = true := decide_eq_true hiN
          obtain ⟨x, hx⟩ : ∃ x, xs[i]? = some x := ⟨_, List.getElem?_eq_getElem (by rw [← HN.out]; exact hiN)⟩
          obtain ⟨b', off, rfl, c0, c1, c2, c3⟩ := (hI.out.grown HB2.out).at hx
          have hr := (hxs.out x (List.mem_of_getElem? hx))
          have hsx := (hx3000.out x (List.mem_of_getElem? hx))
          obtain ⟨xk, xs', xn, xm⟩ := x
          have hA3 : Below W2.heap.size W2 (W2.alloc (.cells #[.int .i64 xk, .string xs', .int .i64 xn, .int .i64 xm] 36)) := (Below.refl _ _).alloc (Nat.le_refl _) _
          have HO3 := Lib.hid (Lies.new W2 [.int .i64 xk, .string xs', .int .i64 xn, .int .i64 xm] 36)
          have HP3 := Lib.hid (HP2.out.below hA3)
          have HB3 := Lib.hid (HB2.out.trans (hA3.mono HB2.out.size))
          have o0 := HO3.out.cell (i := 0) rfl
          have o1 := HO3.out.cell (i := 1) rfl
          have o2 := HO3.out.cell (i := 2) rfl
          have o3 := HO3.out.cell (i := 3) rfl
          have hn3 := Lib.hid hr.2.2.1
          have hm3 := Lib.hid hr.2.2.2
          have hs3 := Lib.hid hsx
          simp only at c0 c1 c2 c3
          clear hx hr hsx hA3
          go_wp2_with fail
          refine (HE.out _ b v d xk xs' xn xm _ HP3.out hs3.out hn3.out hm3.out).mono ?_
          rintro e w4 ⟨rfl, ⟨d4, hp4⟩, hb4⟩
          have HP4 := Lib.hid hp4
          have HB4 := Lib.hid (HB3.out.trans hb4)
          clear hp4 hb4 o0 o1 o2 o3
          go_wp2_with fail
          refine (HM.out _ b v d4 _ HP4.out).mono ?_
          rintro e w5 ⟨rfl, hp5, hb5⟩
          have HP5 := Lib.hid hp5
          have HB5 := Lib.hid (HB4.out.trans hb5)
          clear hp5 hb5
          go_wp2
          go_roundg (N - (i + 1))
          case measure => omega
          case rel => exact ⟨i + 1, d4, by omega, by go_num, HP5, HB5⟩
        · have t1 : decide ((i : Int) < (N : Int)) = false := decide_eq_false (by omega)
          have t1' : decide (i < N) = false := decide_eq_false hiN
          go_wp2
          go_ret
          exact ⟨rfl, HB2.out⟩
  · rw [if_neg hr2] at h1
    obtain ⟨x, rfl, hx⟩ := h1
    have HX := Lib.hid hx
    clear hx
    go_wp2_with fail
    refine (refNew r w1).mono ?_
    rintro e w2 ⟨h2, hb2⟩
    rw [if_neg hr2] at h2
    subst h2
    replace HX := Lib.hid (HX.out.below hb2)
    replace HB := Lib.hid (HB.out.trans (hb2.mono HB.out.size))
    obtain ⟨T, y, rfl⟩ := HX.out.iface
    clear hb2
    go_wp2_with fail
    refine (is_err HX.out 1).mono ?_
    rintro e w3 ⟨rfl, rfl⟩
    go_wp2
    go_ret
    exact ⟨by first | rfl | simp, HB.out⟩
end Go.Proofs.YtfdldjhndfohhaaDoor
