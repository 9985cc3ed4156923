/-
  JournalKeeps' contract: behind any crash Open tells all that was acknowledged, and behind that a beginning of what was under way. The conditions: the program's contracts; the script's and the crashes' cells.
-/
import Derived.Test.YtajkldmpllphjaaGreatDoorJournalKeep
import Derived.Deep.Cut
import Derived.Deep.CutRange
import Derived.Deep.CutBlock
namespace Go.Proofs.YtajkldmpllphjaaGreatDoor
open Go.RowKit BlockMath TextNat JournalMath

structure Cr where
  fuse : Int
  dev : Bool
  k0 : Int
  k1 : Int
  m0 : ByteArray
  m1 : ByteArray
def Cr.cells (x : Cr) : List Value := [.int .i64 x.fuse, .bool x.dev, .int .i64 x.k0, .int .i64 x.k1, .string x.m0, .string x.m1]
structure Cr.Can (x : Cr) : Prop where
  f : I64 x.fuse
  k0 : I64 x.k0
  k1 : I64 x.k1
  m0 : x.m0.size ≤ 9223372036854775807
  m1 : x.m1.size ≤ 9223372036854775807
def CrsIn (w : World) (pp : Option Addr) (xs : List Cr) : Prop := ∀ (i : Nat) (x : Cr), xs[i]? = some x → ∃ b off, pp = some ⟨b, off, none⟩ ∧ ∀ (j : Nat) (u : Value), x.cells[j]? = some u → w.cell? ⟨b, off + (i * 6 + j), none⟩ = some u
theorem CrsIn.grown {w w' : World} {pp : Option Addr} {xs : List Cr} (h : CrsIn w pp xs) (hb : Below w.heap.size w w') : CrsIn w' pp xs := fun i x hx => by
  obtain ⟨b, off, h1, h2⟩ := h i x hx
  refine ⟨b, off, h1, fun j u hj => ?_⟩
  have := h2 j u hj
  exact (hb.cell (p := ⟨b, off + (i * 6 + j), none⟩) (World.block_lt_of_cell? w _ this)).trans this
theorem CrsIn.six {w : World} {pp : Option Addr} {xs : List Cr} (h : CrsIn w pp xs) {i : Nat} {x : Cr} (hx : xs[i]? = some x) : ∃ b off, pp = some ⟨b, off, none⟩ ∧ w.cell? ⟨b, off + i * 6, none⟩ = some (.int .i64 x.fuse) ∧ w.cell? ⟨b, off + i * 6 + 1, none⟩ = some (.bool x.dev) ∧
    w.cell? ⟨b, off + i * 6 + 2, none⟩ = some (.int .i64 x.k0) ∧ w.cell? ⟨b, off + i * 6 + 3, none⟩ = some (.int .i64 x.k1) ∧ w.cell? ⟨b, off + i * 6 + 4, none⟩ = some (.string x.m0) ∧ w.cell? ⟨b, off + i * 6 + 5, none⟩ = some (.string x.m1) := by
  obtain ⟨b, off, h1, h2⟩ := h i x hx
  simp only [Nat.add_assoc]
  exact ⟨b, off, h1, h2 0 _ rfl, h2 1 _ rfl, h2 2 _ rfl, h2 3 _ rfl, h2 4 _ rfl, h2 5 _ rfl⟩
theorem tmod30 (z : Int) : -30 ≤ z.tmod 30 ∧ z.tmod 30 < 30 := by
  have h0 := Int.emod_nonneg z (show (30 : Int) ≠ 0 by decide)
  have h1 := Int.emod_lt_of_pos z (show (0 : Int) < 30 by decide)
  have h2 := Int.tmod_eq_emod (a := z) (b := 30)
  have hn : ((30 : Int).natAbs : Int) = 30 := rfl
  split at h2
  · rw [h2]
    omega
  · rw [h2, hn]
    omega
set_option maxRecDepth 100000 in
set_option maxHeartbeats 8000000 in
theorem keeps_true {D : Dev} {J : Jrn} (hW : Owns D) (hN : NewOk D) (hC : CrashOk D) (hO : OpenedOk D J) (hP : PutOk D J) (hG : GenOk D J) (hS : StartOk D J) (hU : FuseOk D)
    (pp : Option Addr) (cap : Nat) (xs : List Op) (pq : Option Addr) (caq : Nat) (ys : List Cr) (w : World) (hTb : Tables w) (h : OpsIn w pp xs) (hc : ∀ x ∈ xs, x.Can) (hlp : ∀ x ∈ xs, x.lp = none → x.lc = 0) (hl : xs.length ≤ 9223372036854775807)
    (hq : CrsIn w pq ys) (hqc : ∀ y ∈ ys, y.Can) (hql : ys.length ≤ 9223372036854775807) :
    Calls Tryz.prog 3 #[.slice pp xs.length cap, .slice pq ys.length caq] w fun e w' => e = .returned (.bool true) ∧ Below w.heap.size w w' := by
  have HA := Lib.hid (awake_true hW hN hC hO hP hG w hTb)
  have HTB := Lib.hid hTb
  have HGr := Lib.hid (fun w1 h1 => great_ok pp cap xs w1 h1 hc hl)
  have HI := Lib.hid h
  have HCan := Lib.hid hc
  have HLP := Lib.hid hlp
  have HQ := Lib.hid hq
  have HQC := Lib.hid hqc
  have H2 := Lib.hid (fun w => two_ok hW hN 1048576 w (by decide) (by decide))
  have HON := Lib.hid (open_new (R := 1048576) (by decide) (by decide))
  replace hO := Lib.hid hO
  replace hP := Lib.hid hP
  replace hS := Lib.hid hS
  replace hC := Lib.hid hC
  replace hU := Lib.hid hU
  clear hN hW h hc hlp hl hq hqc hG
  go_enter Tryz.func3, Tryz.ntmps3
  go_wp2_with fail
  refine HA.out.mono ?_
  rintro e w0 ⟨rfl, hb⟩
  have HB := Lib.hid hb
  clear hb HA
  go_wp2_with fail
  refine (HGr.out w0 (HI.out.grown HB.out)).mono ?_
  rintro e w1 ⟨⟨g, rfl, hg⟩, hb⟩
  replace HB := Lib.hid (HB.out.trans (hb.mono HB.out.size))
  clear hb HGr
  cases g with
  | true =>
    clear hg
    go_wp2
    go_ret
    exact ⟨rfl, HB.out⟩
  | false =>
    obtain ⟨hg1, hg2⟩ := hg rfl
    have HSM := Lib.hid hg2
    clear hg hg2
    by_cases hy10 : 10 < ys.length
    · have t0 : decide ((10 : Int) < (ys.length : Int)) = true := decide_eq_true (by omega)
      have t0' : decide (10 < ys.length) = true := decide_eq_true hy10
      go_wp2
      go_ret
      exact ⟨rfl, HB.out⟩
    have t0 : decide ((10 : Int) < (ys.length : Int)) = false := decide_eq_false (by omega)
    have t0' : decide (10 < ys.length) = false := decide_eq_false hy10
    go_upto_block 0 with fail
    go_cut [5] from 32 to 53 (fun s5 wx => (∀ y ∈ ys, y.m0.size ≤ 5000 ∧ y.m1.size ≤ 5000) ∧ Below w.heap.size w wx)
    case first =>
      go_wp2_with fail
      go_loopg [32] ys.length (fun gh s32 wx => ∃ i : Nat, i + gh = ys.length ∧ s32 = .int .i64 (i : Int) ∧ (∀ y ∈ ys.take i, y.m0.size ≤ 5000 ∧ y.m1.size ≤ 5000) ∧ Below w.heap.size w wx)
      case atStart => exact ⟨0, by omega, by go_num, (fun y hy => by simp at hy), HB.out⟩
      case round =>
        obtain ⟨i, hi, rfl, hs, hb⟩ := hrel
        have HBw := Lib.hid hb
        have HS1 := Lib.hid hs
        clear hs hb HB
        by_cases hin : i < ys.length
        case neg =>
          have u1 : decide ((i : Int) < (ys.length : Int)) = false := decide_eq_false (by omega)
          have u1' : decide (i < ys.length) = false := decide_eq_false hin
          have HF := Lib.hid (show ∀ y ∈ ys, y.m0.size ≤ 5000 ∧ y.m1.size ≤ 5000 from fun y hy => HS1.out y (by rw [List.take_of_length_le (by omega)]; exact hy))
          go_wp2_with fail
          go_meet
          case rel => exact ⟨HF.out, HBw.out⟩
        case pos =>
          have u1 : decide ((i : Int) < (ys.length : Int)) = true := decide_eq_true (by omega)
          have u1' : decide (i < ys.length) = true := decide_eq_true hin
          have k1 : IntKind.i64.wrap ((i : Int) + 1) = (i : Int) + 1 := by rw [IntKind.wrap_i64]; omega
          obtain ⟨y, hy⟩ : ∃ y, ys[i]? = some y := ⟨_, List.getElem?_eq_getElem hin⟩
          have HY := Lib.hid hy
          have HK := Lib.hid (HQC.out y (List.mem_of_getElem? hy))
          obtain ⟨b, off, rfl, d0, d1, d2, d3, d4, d5⟩ := (HQ.out.grown HBw.out).six hy
          have z0 := HK.out.m0
          have z1 := HK.out.m1
          clear hy
          by_cases g1 : 5000 < y.m0.size
          · have v1 : decide ((5000 : Int) < (y.m0.size : Int)) = true := decide_eq_true (by omega)
            have v1' : decide (5000 < y.m0.size) = true := decide_eq_true g1
            go_wp2
            go_ret
            exact ⟨rfl, HBw.out⟩
          have v1 : decide ((5000 : Int) < (y.m0.size : Int)) = false := decide_eq_false (by omega)
          have v1' : decide (5000 < y.m0.size) = false := decide_eq_false g1
          by_cases g2 : 5000 < y.m1.size
          · have v2 : decide ((5000 : Int) < (y.m1.size : Int)) = true := decide_eq_true (by omega)
            have v2' : decide (5000 < y.m1.size) = true := decide_eq_true g2
            go_wp2
            go_ret
            exact ⟨rfl, HBw.out⟩
          have v2 : decide ((5000 : Int) < (y.m1.size : Int)) = false := decide_eq_false (by omega)
          have v2' : decide (5000 < y.m1.size) = false := decide_eq_false g2
          have HF := Lib.hid (show ∀ u ∈ ys.take (i + 1), u.m0.size ≤ 5000 ∧ u.m1.size ≤ 5000 by
            intro u hu
            rw [List.take_add_one, HY.out] at hu
            rcases List.mem_append.1 hu with h | h
            · exact HS1.out u h
            · simp at h
              rw [h]
              omega)
          go_wp2_with fail
          go_roundg (ys.length - (i + 1))
          case measure => omega
          case rel => exact ⟨i + 1, by omega, by go_num, HF.out, HBw.out⟩
    case rest =>
      obtain ⟨hm, hb⟩ := hcut
      have HM := Lib.hid hm
      replace HB := Lib.hid hb
      clear hm hb
      go_wp2_with fail
      refine (H2.out wc).mono ?_
      rintro e w2 ⟨⟨ba, bb, rfl, hd⟩, hb⟩
      have HD := Lib.hid hd
      have HB1 := Lib.hid hb
      have HBs := Lib.hid HB.out.size
      clear hd hb H2
      go_wp2_with fail
      refine (HD.out.opens hO.out ((HTB.out.grown HB.out).grown HB1.out) (HTB.out.grown HB.out).lt HB1.out.size).mono ?_
      rintro e w3 ⟨ho, hb⟩
      have HB2 := Lib.hid (HB1.out.trans hb)
      replace HB := Lib.hid (HB.out.trans (HB2.out.mono HB.out.size))
      clear hb HB1 HD
      rcases HON.out with ⟨j, o1, o2, o3, o4, o5, o6, o7, o8, -⟩ | ⟨_, o1⟩
      case inr => exact absurd o1 (by decide)
      rw [o1, if_pos rfl] at ho
      obtain ⟨p0, v0, S, rfl, hT0, hSB, -, -⟩ := ho
      have HST := Lib.hid (show Stand D J w.heap.size w3 p0 ba bb (.slice none 0 0) [] 0 from ⟨j, S, hT0, fun k hk => Nat.le_trans HBs.out (hSB k hk), RowT.nil _ _, (fun k hk => by cases hk), o2, o5, o6, Nat.le_refl _⟩)
      clear hT0 hSB HON o1 o2 o3 o4 o5 o6 o7 o8 HB2 HBs
      go_wp2_with fail
      go_loopg [8, 11, 12, 13] (ys.length + 1) (fun gh s8 s11 s12 s13 wx => ∃ i at_ p hv, i + gh = ys.length + 1 ∧ s13 = .int .i64 ((i : Nat) : Int) ∧ s12 = .int .i64 ((at_ : Nat) : Int) ∧ at_ ≤ xs.length ∧ s8 = ptr p ∧ Stand D J w.heap.size wx p ba bb s11 hv (450 * at_) ∧ Below w.heap.size w wx)
      case atStart => exact ⟨0, 0, p0, [], by omega, by go_num, by go_num, Nat.zero_le _, rfl, HST.out, HB.out⟩
      case round =>
        obtain ⟨i, at_, p, hv, hi, rfl, rfl, hat, rfl, hst, hb⟩ := hrel
        have HBw := Lib.hid hb
        have HStand := Lib.hid hst
        clear HB HST hst hb
        by_cases hin : i ≤ ys.length
        case neg =>
          have u1 : decide ((i : Int) ≤ (ys.length : Int)) = false := decide_eq_false (by omega)
          have u1' : decide (i ≤ ys.length) = false := decide_eq_false hin
          go_wp2
          go_ret
          exact ⟨rfl, HBw.out⟩
        have u1 : decide ((i : Int) ≤ (ys.length : Int)) = true := decide_eq_true (by omega)
        have u1' : decide (i ≤ ys.length) = true := decide_eq_true hin
        have ki : IntKind.i64.wrap ((i : Int) + 1) = (i : Int) + 1 := by rw [IntKind.wrap_i64]; omega
        go_upto_if 76 with fail
        go_cut [1, 16, 26, 30, 68, 74] from 76 to 92 (fun s1 s16 s26 s30 s68 s74 wx => s1 = .slice pq ys.length caq ∧ s26 = .slice pq ys.length caq ∧ s30 = .slice pq ys.length caq ∧ StandF D J w.heap.size wx p ba bb u11 hv (450 * at_) (fun _ => False) ∧ Below w.heap.size w wx)
        case first =>
          by_cases hil : i < ys.length
          case neg =>
            have v1 : decide ((i : Int) < (ys.length : Int)) = false := decide_eq_false (by omega)
            have v1' : decide (i < ys.length) = false := decide_eq_false hil
            go_wp2_with fail
            go_meet
            case rel => exact ⟨rfl, rfl, rfl, HStand.out.f, HBw.out⟩
          case pos =>
            have v1 : decide ((i : Int) < (ys.length : Int)) = true := decide_eq_true (by omega)
            have v1' : decide (i < ys.length) = true := decide_eq_true hil
            obtain ⟨y, hy⟩ : ∃ y, ys[i]? = some y := ⟨_, List.getElem?_eq_getElem hil⟩
            have HK := Lib.hid (HQC.out y (List.mem_of_getElem? hy))
            obtain ⟨b, off, rfl, d0, d1, d2, d3, d4, d5⟩ := (HQ.out.grown HBw.out).six hy
            obtain ⟨fz, hfz⟩ : ∃ fz, fz = y.fuse := ⟨_, rfl⟩
            obtain ⟨dv, hdv⟩ : ∃ dv, dv = y.dev := ⟨_, rfl⟩
            rw [← hfz] at d0
            rw [← hdv] at d1
            have hf64 : I64 fz := by rw [hfz]; exact HK.out.f
            unfold I64 at hf64
            have kt := tmod30 fz
            have kf3 : IntKind.i64.wrap (fz.tmod 30) = fz.tmod 30 := by rw [IntKind.wrap_i64]; omega
            clear hy hfz hdv
            cases dv
            · go_wp2_with fail
              · refine (fuse_a hU.out HStand.out.f HBw.out.size (0) (by unfold I64; omega)).mono ?_
                rintro e w5 ⟨rfl, h1, h2⟩
                have HST5 := Lib.hid h1
                have HB5 := Lib.hid (HBw.out.trans h2)
                clear h1 h2
                go_wp2_with fail
                go_meet
                case rel => exact ⟨rfl, rfl, rfl, HST5.out, HB5.out⟩
              · refine (fuse_a hU.out HStand.out.f HBw.out.size (fz % 30) (by unfold I64; omega)).mono ?_
                rintro e w5 ⟨rfl, h1, h2⟩
                have HST5 := Lib.hid h1
                have HB5 := Lib.hid (HBw.out.trans h2)
                clear h1 h2
                go_wp2_with fail
                go_meet
                case rel => exact ⟨rfl, rfl, rfl, HST5.out, HB5.out⟩
            · go_wp2_with fail
              · refine (fuse_b hU.out HStand.out.f HBw.out.size (0) (by unfold I64; omega)).mono ?_
                rintro e w5 ⟨rfl, h1, h2⟩
                have HST5 := Lib.hid h1
                have HB5 := Lib.hid (HBw.out.trans h2)
                clear h1 h2
                go_wp2_with fail
                go_meet
                case rel => exact ⟨rfl, rfl, rfl, HST5.out, HB5.out⟩
              · refine (fuse_b hU.out HStand.out.f HBw.out.size (fz % 30) (by unfold I64; omega)).mono ?_
                rintro e w5 ⟨rfl, h1, h2⟩
                have HST5 := Lib.hid h1
                have HB5 := Lib.hid (HBw.out.trans h2)
                clear h1 h2
                go_wp2_with fail
                go_meet
                case rel => exact ⟨rfl, rfl, rfl, HST5.out, HB5.out⟩
        case rest =>
          obtain ⟨rfl, rfl, rfl, hst, hb⟩ := hcut
          have HSF := Lib.hid hst
          have HB1 := Lib.hid hb
          clear hst hb HStand HBw
          go_upto_block 4 with fail
          go_cut [0, 11, 12, 14, 15, 23] from 93 to 165 (fun s0 s11 s12 s14 s15 s23 wx => s0 = .slice pp xs.length cap ∧ s23 = .slice pp xs.length cap ∧ ∃ at2 hv2 un up uc an, s12 = .int .i64 ((at2 : Nat) : Int) ∧ at2 ≤ xs.length ∧ s14 = .slice up un.length uc ∧ un.length ≤ uc ∧ TextsIn w up un ∧ s15 = .bool an ∧ Over D w.heap.size wx ba bb s11 hv2 un an (450 * at2) (fun _ => False) ∧ Below w.heap.size w wx)
          case first =>
            go_wp2_with fail
            go_loopg [11, 12, 14, 15] (xs.length - at_) (fun gh s11 s12 s14 s15 wx => ∃ t hv2, t + gh = xs.length ∧ s12 = .int .i64 ((t : Nat) : Int) ∧ s14 = .slice none 0 0 ∧ s15 = .bool false ∧ StandF D J w.heap.size wx p ba bb s11 hv2 (450 * t) (fun _ => False) ∧ Below w.heap.size w wx)
            case atStart => exact ⟨at_, hv, by omega, by go_num, rfl, rfl, HSF.out, HB1.out⟩
            case round =>
              obtain ⟨t, hv2, ht, rfl, rfl, rfl, hst, hb⟩ := hrel
              have HSF2 := Lib.hid hst
              have HB2 := Lib.hid hb
              clear hst hb HSF HB1
              by_cases htl : t < xs.length
              case neg =>
                have v1 : decide ((t : Int) < (xs.length : Int)) = false := decide_eq_false (by omega)
                have v1' : decide (t < xs.length) = false := decide_eq_false htl
                have hte : t = xs.length := by omega
                have HOv := Lib.hid (HSF2.out.over)
                clear hte
                go_wp2_with fail
                go_meet
                case rel => exact ⟨rfl, rfl, t, hv2, [], none, 0, false, by go_num, by omega, rfl, Nat.le_refl _, (fun i x hx => by cases hx), rfl, HOv.out, HB2.out⟩
              case pos =>
                have v1 : decide ((t : Int) < (xs.length : Int)) = true := decide_eq_true (by omega)
                have v1' : decide (t < xs.length) = true := decide_eq_true htl
                have kt1 : IntKind.i64.wrap ((t : Int) + 1) = (t : Int) + 1 := by rw [IntKind.wrap_i64]; omega
                obtain ⟨x, hx⟩ : ∃ x, xs[t]? = some x := ⟨_, List.getElem?_eq_getElem htl⟩
                have hxm := List.mem_of_getElem? hx
                have HLB := Lib.hid (HI.out.low hx)
                have HTX0 := Lib.hid (HI.out.tx hx)
                obtain ⟨b, off, rfl, d0, d1, d2, d3, d4, d5, htx⟩ := (HI.out.grown HB2.out).six hx
                obtain ⟨kk, hkk⟩ : ∃ kk, kk = x.k := ⟨_, rfl⟩
                rw [← hkk] at d0
                clear hkk
                have HK := Lib.hid (HCan.out x hxm)
                have HX := Lib.hid (HSM.out x hxm)
                have HP0 := Lib.hid (HLP.out x hxm)
                have hal : Below wr.heap.size wr (wr.alloc (.cells #[.int .i64 kk, .slice x.lp x.l.length x.lc, .bool x.dev, .int .i64 x.n, .int .i64 x.m, .string x.s] 41)) := (Below.refl _ _).alloc (Nat.le_refl _) _
                have HSF3 := Lib.hid (HSF2.out.spare hal)
                have HB3 := Lib.hid (HB2.out.trans (hal.mono HB2.out.size))
                have HTX3 := Lib.hid (TextsIn.grown htx hal)
                have HOP3 := Lib.hid (show OpAt (wr.alloc (.cells #[.int .i64 kk, .slice x.lp x.l.length x.lc, .bool x.dev, .int .i64 x.n, .int .i64 x.m, .string x.s] 41)) wr.heap.size kk x from Lies.new wr [.int .i64 kk, .slice x.lp x.l.length x.lc, .bool x.dev, .int .i64 x.n, .int .i64 x.m, .string x.s] 41)
                clear hx hxm htx hal HB2
                by_cases hk0 : kk = 0
                case pos =>
                  subst hk0
                  have e0 := HOP3.out.cell (i := 0) rfl
                  have e1 := HOP3.out.cell (i := 1) rfl
                  go_wp2_with fail
                  refine (put_keep hP.out (HTB.out.grown HB3.out) HTB.out.lt HSF3.out (fun k hk => by rw [hk]; simp) HB3.out.size HTX3.out HX.out HK.out.cap (fun a ha h0 => HLB.out a ha h0)).mono ?_
                  rintro e w6 ⟨⟨x1, rfl, hx⟩, hb, hF⟩
                  have HB6 := Lib.hid (HB3.out.trans hb)
                  have HTX6 := Lib.hid (HTX0.out.grown HB6.out)
                  have HOP6 := Lib.hid (show OpAt w6 wr.heap.size 0 x from (hF _ rfl).trans HOP3.out)
                  clear hb hF e0 e1 HSF3 HB3 HTX3 HOP3
                  have e0 := HOP6.out.cell (i := 0) rfl
                  have e1 := HOP6.out.cell (i := 1) rfl
                  rcases hx with ⟨rfl, j, S, q1, q2, q3, q4, q5, q6⟩ | ⟨hx, hst⟩ | hx | ⟨hx, hov⟩
                  · have HT6 := Lib.hid q1
                    have HSB6 := Lib.hid q2
                    have HR6 := Lib.hid q3
                    have HNB6 := Lib.hid q4
                    have HL6 := Lib.hid q5
                    have HLN := Lib.hid (show hv2.length ≤ 450 * t from by
                      obtain ⟨_, _, _, _, _, _, _, h, _⟩ := HSF2.out.is
                      exact h)
                    clear q1 q2 q3 q4 q5 q6 HSF2
                    go_wp2_with (
                      at_builtin
                      refine app_row rfl _ _ rfl w.heap.size _ hv2 rfl HR6.out x.lp x.lc x.l rfl HTX6.out HP0.out HK.out.cap (by have := HLN.out; have := HX.out.few; omega) HB6.out.size ?_
                      intro v7 w7 r7 g7 n7
                      have HST7 := Lib.hid (standf_more (m := 450 * (t + 1)) HT6.out HSB6.out HNB6.out HL6.out (by rw [List.length_append]; have := HLN.out; have := HX.out.few; omega) r7 g7 n7)
                      have HB7 := Lib.hid (HB6.out.trans (RowT.grown HR6.out HB6.out.size g7))
                      clear r7 g7 n7 e0 e1)
                    go_roundg (xs.length - (t + 1))
                    case measure => omega
                    case rel => exact ⟨t + 1, _, by omega, by go_num, rfl, rfl, HST7.out, HB7.out⟩
                  · have HX6 := Lib.hid hx
                    have HST6 := Lib.hid (hst.free.least (show 450 * t ≤ 450 * (t + 1) by omega))
                    obtain ⟨T, y, rfl⟩ := hx.iface
                    clear hx hst HSF2
                    go_wp2_with fail
                    refine (is_err HX6.out 3).mono ?_
                    rintro e w9 ⟨rfl, rfl⟩
                    go_wp2_with fail
                    refine (is_err HX6.out 5).mono ?_
                    rintro e w9 ⟨rfl, rfl⟩
                    go_wp2_with fail
                    go_roundg (xs.length - (t + 1))
                    case measure => omega
                    case rel => exact ⟨t + 1, hv2, by omega, by go_num, rfl, rfl, HST6.out, HB6.out⟩
                  · have HX6 := Lib.hid hx
                    obtain ⟨T, y, rfl⟩ := hx.iface
                    clear hx HSF2
                    go_wp2_with fail
                    refine (is_err HX6.out 3).mono ?_
                    rintro e w9 ⟨rfl, rfl⟩
                    go_wp2_with fail
                    refine (is_err HX6.out 5).mono ?_
                    rintro e w9 ⟨rfl, rfl⟩
                    go_wp2_with fail
                    refine (is_err HX6.out 4).mono ?_
                    rintro e w9 ⟨rfl, rfl⟩
                    go_wp2
                    go_ret
                    exact ⟨rfl, HB6.out⟩
                  · have HX6 := Lib.hid hx
                    have HOv := Lib.hid hov
                    obtain ⟨T, y, rfl⟩ := hx.iface
                    clear hx hov HSF2
                    go_wp2_with fail
                    refine (is_err HX6.out 3).mono ?_
                    rintro e w9 ⟨rfl, rfl⟩
                    go_wp2_with fail
                    refine (is_err HX6.out 5).mono ?_
                    rintro e w9 ⟨rfl, rfl⟩
                    go_wp2_with fail
                    go_quiet (fail)
                    obtain ⟨w7, hw7⟩ : ∃ w7, w7 = w9.drewN nq := ⟨_, rfl⟩
                    have HX7 := Lib.hid (show ErrIs w7 5 (.iface T y) by rw [hw7]; exact HX6.out.below (drewN_below w9 nq))
                    have HOv7 := Lib.hid (show Over D w.heap.size w7 ba bb u11 hv2 x.l false (450 * (t + 1)) (fun _ => False) by rw [hw7]; exact HOv.out.free (drewN_below w9 nq) (by have := HX.out.few; omega))
                    have HB7 := Lib.hid (show Below w.heap.size w w7 by rw [hw7]; exact HB6.out.trans ((drewN_below w9 nq).mono HB6.out.size))
                    have HTX7 := Lib.hid (HTX0.out)
                    rw [← hw7]
                    clear hw7 HX6 HOv HB6 e0 e1 HOP6 HTX6
                    go_wp2_with fail
                    refine (is_err HX7.out 5).mono ?_
                    rintro e w9 ⟨rfl, rfl⟩
                    go_wp2_with fail
                    go_meet
                    case rel => exact ⟨rfl, rfl, t + 1, hv2, x.l, x.lp, x.lc, false, by go_num, by omega, rfl, HK.out.cap, HTX7.out, rfl, HOv7.out, HB7.out⟩
                case neg =>
                  have c0 : (kk == 0) = false := by rw [beq_eq_false_iff_ne]; exact hk0
                  have c0' : (kk != 0) = true := by rw [bne, c0]; rfl
                  by_cases hk1 : kk = 1
                  case pos =>
                    subst hk1
                    have e0 := HOP3.out.cell (i := 0) rfl
                    have e1 := HOP3.out.cell (i := 1) rfl
                    go_wp2_with fail
                    refine (start_keep hS.out (HTB.out.grown HB3.out) HTB.out.lt HSF3.out (fun k hk => by rw [hk]; simp) HB3.out.size HTX3.out HX.out HK.out.cap (fun a ha h0 => HLB.out a ha h0)).mono ?_
                    rintro e w6 ⟨⟨x1, rfl, hx⟩, hb, hF⟩
                    have HB6 := Lib.hid (HB3.out.trans hb)
                    have HTX6 := Lib.hid (HTX0.out.grown HB6.out)
                    have HOP6 := Lib.hid (show OpAt w6 wr.heap.size 1 x from (hF _ rfl).trans HOP3.out)
                    clear hb hF e0 e1 HSF3 HB3 HTX3 HOP3
                    have e0 := HOP6.out.cell (i := 0) rfl
                    have e1 := HOP6.out.cell (i := 1) rfl
                    rcases hx with ⟨rfl, j, S, q1, q2, q3, q4, q5, q6⟩ | ⟨hx, hst⟩ | hx | ⟨hx, hov⟩
                    · have HT6 := Lib.hid q1
                      have HSB6 := Lib.hid q2
                      have HR6 := Lib.hid q3
                      have HNB6 := Lib.hid q4
                      have HL6 := Lib.hid q5
                      have HLN := Lib.hid (show hv2.length ≤ 450 * t from by
                        obtain ⟨_, _, _, _, _, _, _, h, _⟩ := HSF2.out.is
                        exact h)
                      clear q1 q2 q3 q4 q5 q6 HSF2
                      have hal7 : Below w6.heap.size w6 (w6.alloc (.cells #[] 9)) := (Below.refl _ _).alloc (Nat.le_refl _) _
                      have HR7 := Lib.hid (row_made w6 w.heap.size HB6.out.size)
                      have HT7 := Lib.hid (HT6.out.stays hal7.size fun k hk => hal7.block k (HT6.out.lt k hk))
                      have HTX7 := Lib.hid (HTX6.out.grown hal7)
                      have HB7 := Lib.hid (HB6.out.trans (hal7.mono HB6.out.size))
                      have HN7 := Lib.hid (show ∀ k, (Value.slice (some ⟨w6.heap.size, 0, none⟩) 0 0).ownBlock = some k → ¬ S k from fun k hk hs => by
                        have := HT6.out.lt k hs
                        simp [Value.ownBlock] at hk
                        omega)
                      have e1' : (w6.alloc (.cells #[] 9)).cell? ⟨wr.heap.size, 1, none⟩ = some (.slice x.lp x.l.length x.lc) := (Lies.below HOP6.out hal7).cell (i := 1) rfl
                      clear hal7
                      go_wp2_with (
                        at_builtin
                        refine app_row rfl _ _ rfl w.heap.size _ [] rfl HR7.out x.lp x.lc x.l rfl HTX7.out HP0.out HK.out.cap (by have := HX.out.few; simp; omega) HB7.out.size ?_
                        intro v8 w8 r8 g8 n8
                        rw [List.nil_append] at r8
                        have HST8 := Lib.hid (standf_more (m := 450 * (t + 1)) HT7.out HSB6.out HN7.out HL6.out (by have := HX.out.few; omega) r8 g8 n8)
                        have HB8 := Lib.hid (HB7.out.trans (RowT.grown HR7.out HB7.out.size g8))
                        clear r8 g8 n8 e0 e1 e1')
                      go_roundg (xs.length - (t + 1))
                      case measure => omega
                      case rel => exact ⟨t + 1, _, by omega, by go_num, rfl, rfl, HST8.out, HB8.out⟩
                    · have HX6 := Lib.hid hx
                      have HST6 := Lib.hid (hst.free.least (show 450 * t ≤ 450 * (t + 1) by omega))
                      obtain ⟨T, y, rfl⟩ := hx.iface
                      clear hx hst HSF2
                      go_wp2_with fail
                      refine (is_err HX6.out 3).mono ?_
                      rintro e w9 ⟨rfl, rfl⟩
                      go_wp2_with fail
                      refine (is_err HX6.out 5).mono ?_
                      rintro e w9 ⟨rfl, rfl⟩
                      go_wp2_with fail
                      go_roundg (xs.length - (t + 1))
                      case measure => omega
                      case rel => exact ⟨t + 1, hv2, by omega, by go_num, rfl, rfl, HST6.out, HB6.out⟩
                    · have HX6 := Lib.hid hx
                      obtain ⟨T, y, rfl⟩ := hx.iface
                      clear hx HSF2
                      go_wp2_with fail
                      refine (is_err HX6.out 3).mono ?_
                      rintro e w9 ⟨rfl, rfl⟩
                      go_wp2_with fail
                      refine (is_err HX6.out 5).mono ?_
                      rintro e w9 ⟨rfl, rfl⟩
                      go_wp2_with fail
                      refine (is_err HX6.out 4).mono ?_
                      rintro e w9 ⟨rfl, rfl⟩
                      go_wp2
                      go_ret
                      exact ⟨rfl, HB6.out⟩
                    · have HX6 := Lib.hid hx
                      have HOv := Lib.hid hov
                      obtain ⟨T, y, rfl⟩ := hx.iface
                      clear hx hov HSF2
                      go_wp2_with fail
                      refine (is_err HX6.out 3).mono ?_
                      rintro e w9 ⟨rfl, rfl⟩
                      go_wp2_with fail
                      refine (is_err HX6.out 5).mono ?_
                      rintro e w9 ⟨rfl, rfl⟩
                      go_wp2_with fail
                      go_quiet (fail)
                      obtain ⟨w7, hw7⟩ : ∃ w7, w7 = w9.drewN nq := ⟨_, rfl⟩
                      have HX7 := Lib.hid (show ErrIs w7 5 (.iface T y) by rw [hw7]; exact HX6.out.below (drewN_below w9 nq))
                      have HOv7 := Lib.hid (show Over D w.heap.size w7 ba bb u11 hv2 x.l true (450 * (t + 1)) (fun _ => False) by rw [hw7]; exact HOv.out.free (drewN_below w9 nq) (by have := HX.out.few; omega))
                      have HB7 := Lib.hid (show Below w.heap.size w w7 by rw [hw7]; exact HB6.out.trans ((drewN_below w9 nq).mono HB6.out.size))
                      have HTX7 := Lib.hid (HTX0.out)
                      rw [← hw7]
                      clear hw7 HX6 HOv HB6 e0 e1 HOP6 HTX6
                      go_wp2_with fail
                      refine (is_err HX7.out 5).mono ?_
                      rintro e w9 ⟨rfl, rfl⟩
                      go_wp2_with fail
                      go_meet
                      case rel => exact ⟨rfl, rfl, t + 1, hv2, x.l, x.lp, x.lc, true, by go_num, by omega, rfl, HK.out.cap, HTX7.out, rfl, HOv7.out, HB7.out⟩
                  case neg =>
                    have c1 : (kk == 1) = false := by rw [beq_eq_false_iff_ne]; exact hk1
                    have c1' : (kk != 1) = true := by rw [bne, c1]; rfl
                    have HST6 := Lib.hid (HSF3.out.free.least (show 450 * t ≤ 450 * (t + 1) by omega))
                    go_wp2_with fail
                    go_roundg (xs.length - (t + 1))
                    case measure => omega
                    case rel => exact ⟨t + 1, hv2, by omega, by go_num, rfl, rfl, HST6.out, HB3.out⟩
          case rest =>
            obtain ⟨rfl, rfl, at2, hv2, un, up, uc, an, rfl, hat2, rfl, huc, htu, rfl, hov, hb⟩ := hcut
            have HOv := Lib.hid hov
            have HB2 := Lib.hid hb
            have HTU := Lib.hid htu
            clear hov hb htu HSF HB1
            go_upto_if 169 with fail
            go_cut [1, 26, 30, 167] from 169 to 173 (fun s1 s26 s30 s167 wx => s1 = .slice pq ys.length caq ∧ s26 = .slice pq ys.length caq ∧ s30 = .slice pq ys.length caq ∧ ∃ fu dv k0 k1 m0 m1, Lies wx wc.heap.size [.int .i64 fu, .bool dv, .int .i64 k0, .int .i64 k1, .string m0, .string m1] 29 ∧ I64 k0 ∧ I64 k1 ∧ m0.size ≤ 5000 ∧ m1.size ≤ 5000 ∧ Over D w.heap.size wx ba bb u11 hv2 un an (450 * at2) (fun k => k = wc.heap.size) ∧ Below w.heap.size w wx)
            case first =>
              by_cases hil : i < ys.length
              case neg =>
                have v1 : decide ((i : Int) < (ys.length : Int)) = false := decide_eq_false (by omega)
                have v1' : decide (i < ys.length) = false := decide_eq_false hil
                have hal : Below wc.heap.size wc (wc.alloc (.cells #[.int .i64 0, .bool false, .int .i64 0, .int .i64 0, .string ⟨#[]⟩, .string ⟨#[]⟩] 29)) := (Below.refl _ _).alloc (Nat.le_refl _) _
                have HOv3 := Lib.hid (HOv.out.spare hal)
                have HB3 := Lib.hid (HB2.out.trans (hal.mono HB2.out.size))
                have HL3 := Lib.hid (Lies.new wc [.int .i64 0, .bool false, .int .i64 0, .int .i64 0, .string ⟨#[]⟩, .string ⟨#[]⟩] 29)
                clear hal
                go_wp2_with fail
                go_meet
                case rel => exact ⟨rfl, rfl, rfl, 0, false, 0, 0, ⟨#[]⟩, ⟨#[]⟩, HL3.out, by unfold I64; decide, by unfold I64; decide, by decide, by decide, HOv3.out, HB3.out⟩
              case pos =>
                have v1 : decide ((i : Int) < (ys.length : Int)) = true := decide_eq_true (by omega)
                have v1' : decide (i < ys.length) = true := decide_eq_true hil
                obtain ⟨y, hy⟩ : ∃ y, ys[i]? = some y := ⟨_, List.getElem?_eq_getElem hil⟩
                have HK := Lib.hid (HQC.out y (List.mem_of_getElem? hy))
                have HMy := Lib.hid (HM.out y (List.mem_of_getElem? hy))
                have hal : Below wc.heap.size wc (wc.alloc (.cells #[.int .i64 y.fuse, .bool y.dev, .int .i64 y.k0, .int .i64 y.k1, .string y.m0, .string y.m1] 29)) := (Below.refl _ _).alloc (Nat.le_refl _) _
                have hal0 : Below wc.heap.size wc (wc.alloc (.cells #[.int .i64 0, .bool false, .int .i64 0, .int .i64 0, .string ⟨#[]⟩, .string ⟨#[]⟩] 29)) := (Below.refl _ _).alloc (Nat.le_refl _) _
                obtain ⟨b, off, rfl, d0, d1, d2, d3, d4, d5⟩ := (HQ.out.grown (HB2.out.trans (hal0.mono HB2.out.size))).six hy
                have HOv3 := Lib.hid (HOv.out.spare hal)
                have HB3 := Lib.hid (HB2.out.trans (hal.mono HB2.out.size))
                have HL3 := Lib.hid (Lies.new wc [.int .i64 y.fuse, .bool y.dev, .int .i64 y.k0, .int .i64 y.k1, .string y.m0, .string y.m1] 29)
                clear hy hal hal0
                go_wp2_with fail
                go_meet
                case rel => exact ⟨rfl, rfl, rfl, y.fuse, y.dev, y.k0, y.k1, y.m0, y.m1, HL3.out, HK.out.k0, HK.out.k1, HMy.out.1, HMy.out.2, HOv3.out, HB3.out⟩
            case rest =>
              obtain ⟨rfl, rfl, rfl, fu, dv, k0, k1, m0, m1, hls, hk0, hk1, hm0, hm1, hov, hb⟩ := hcut
              obtain ⟨a, b, S, z1, z2, z3, z4, z5, z6, z7⟩ := hov.is
              obtain ⟨jz, lz, y1, y2, y3, y4, y5⟩ := z7 k0 k1 m0 m1
              have HD1 := Lib.hid z1
              have HSB1 := Lib.hid z2
              have HR1 := Lib.hid z3
              have HNB1 := Lib.hid z4
              have HLN := Lib.hid z5
              have HNC1 := Lib.hid (z6 _ rfl)
              have HL1 := Lib.hid hls
              have HY1 := Lib.hid y1
              have HY2 := Lib.hid y2
              have HYF := Lib.hid (And.intro y3 y4)
              have HY5 := Lib.hid y5
              have HK0 := Lib.hid hk0
              have HK1 := Lib.hid hk1
              have HB3 := Lib.hid hb
              have e2 := Lies.cell (i := 2) HL1.out rfl
              have e4 := Lies.cell (i := 4) HL1.out rfl
              clear z1 z2 z3 z4 z5 z6 z7 hls y1 y2 y3 y4 y5 hk0 hk1 hov hb HOv HB2
              go_wp2_with fail
              refine (HD1.out.crash hC.out k0 m0 HK0.out (by omega)).mono ?_
              rintro e w6 ⟨rfl, ⟨S2, hd, hg⟩, ha⟩
              have HD2 := Lib.hid hd.swap
              have HR2 := Lib.hid (HR1.out.apart ha HNB1.out)
              have HSB2 := Lib.hid (show ∀ k, S2 k → w.heap.size ≤ k from fun k hk => (hg k hk).elim (HSB1.out k) fun h => Nat.le_trans HB3.out.size h)
              have HNB2 := Lib.hid (show ∀ k, u11.ownBlock = some k → ¬ S2 k from fun k hk => not_in hg (OwnsM.lt HR1.out k hk).2 (HNB1.out k hk))
              have HB4 := Lib.hid (HB3.out.trans (apart_below HSB1.out HB3.out.size ha))
              have HL2 := Lib.hid ((ha.block _ (Lies.lt HL1.out) HNC1.out).trans HL1.out)
              have e3 := Lies.cell (i := 3) HL2.out rfl
              have e5 := Lies.cell (i := 5) HL2.out rfl
              clear hd hg ha HD1 HR1 HSB1 HNB1 HNC1 HL1 e2 e4 HB3
              go_wp2_with fail
              refine (HD2.out.crash hC.out k1 m1 HK1.out (by omega)).mono ?_
              rintro e w7 ⟨rfl, ⟨S3, hd, hg⟩, ha⟩
              have HD3 := Lib.hid hd.swap
              have HR3 := Lib.hid (HR2.out.apart ha HNB2.out)
              have HSB3 := Lib.hid (show ∀ k, S3 k → w.heap.size ≤ k from fun k hk => (hg k hk).elim (HSB2.out k) fun h => Nat.le_trans HB4.out.size h)
              have HNB3 := Lib.hid (show ∀ k, u11.ownBlock = some k → ¬ S3 k from fun k hk => not_in hg (OwnsM.lt HR2.out k hk).2 (HNB2.out k hk))
              have HB5 := Lib.hid (HB4.out.trans (apart_below HSB2.out HB4.out.size ha))
              clear hd hg ha HD2 HR2 HSB2 HNB2 HL2 e3 e5 HB4
              go_wp2_with fail
              refine (hO.out ba bb S3 _ _ w7 HD3.out (HTB.out.grown HB5.out) (far_of HTB.out.lt HSB3.out)).mono ?_
              rintro e w8 ⟨ho, ha⟩
              rw [HY1.out, if_pos rfl] at ho
              obtain ⟨p2, v2, S4, rfl, hT4, hS4, hr4, hn4⟩ := ho
              have HB6 := Lib.hid (HB5.out.trans (apart_below HSB3.out HB5.out.size ha))
              have HR4 := HR3.out.apart ha HNB3.out
              obtain ⟨mm, hmm⟩ : ∃ mm : List ByteArray, mm = lz.map txt := ⟨_, rfl⟩
              have hback : mm.map nats = lz ∧ ((an = true ∧ (mm = hv2 ∨ mm = un)) ∨ (an = false ∧ ∃ k, mm = hv2 ++ un.take k)) := by
                have hX : ∀ X : List ByteArray, (X.map nats).map txt = X := fun X => by
                  rw [List.map_map]
                  conv => rhs; rw [← List.map_id X]
                  exact List.map_congr_left fun s _ => txt_nats s
                have h5 := HY5.out
                unfold Told at h5
                cases an with
                | true =>
                  rw [if_pos rfl] at h5
                  rcases h5 with h5 | h5
                  · rw [hmm, h5, hX]
                    exact ⟨rfl, .inl ⟨rfl, .inl rfl⟩⟩
                  · rw [hmm, h5, hX]
                    exact ⟨rfl, .inl ⟨rfl, .inr rfl⟩⟩
                | false =>
                  rw [if_neg (by simp)] at h5
                  obtain ⟨k, h5⟩ := h5
                  rw [hmm, h5, hX]
                  exact ⟨rfl, .inr ⟨rfl, k, rfl⟩⟩
              rw [← hmm] at hr4
              obtain ⟨hb1, hb2⟩ := hback
              have hmml : mm.length ≤ 450 * at2 := by
                have := HLN.out
                rcases hb2 with ⟨_, h | h⟩ | ⟨_, k, h⟩
                · rw [h]; omega
                · rw [h]; omega
                · rw [h, List.length_append, List.length_take]; omega
              have HSTn := Lib.hid (show Stand D J w.heap.size w8 p2 ba bb v2 mm (450 * at2) from ⟨jz, S4, hT4, fun k hk => (hS4 k hk).elim (HSB3.out k) fun h => Nat.le_trans HB5.out.size h, OwnsM.weaken hr4 HB5.out.size, hn4, by rw [hb1]; exact HY2.out, HYF.out.1, HYF.out.2, hmml⟩)
              obtain ⟨pm, cm, rfl, hcm, hpm⟩ := hr4.shape
              have htm := hr4.texts
              obtain ⟨ph, ch, hvv, -, -⟩ := HR4.shape
              subst hvv
              have hth := HR4.texts
              have htu8 := HTU.out.grown HB6.out
              have HTM := Lib.hid htm
              have HTH := Lib.hid hth
              have HTU8 := Lib.hid htu8
              have hl1 : mm.length ≤ 1000000 := by omega
              have hl2 : hv2.length ≤ 1000000 := by have := HLN.out; omega
              have hl3 : un.length ≤ 1000000 := by have := HLN.out; omega
              clear hT4 hS4 hr4 hn4 ha HR4 hmm hb1 htm hth htu8 HR3 HD3 HSB3 HNB3 HY1 HY2 HYF HY5 HB5 HTU
              rcases hb2 with ⟨rfl, hx⟩ | ⟨rfl, kx, hx⟩
              · by_cases hE : mm = hv2
                · have HSa := same_ok pm ph cm ch mm hv2 w8 HTM.out HTH.out hl1
                  rw [decide_eq_true hE] at HSa
                  replace HSa := Lib.hid HSa
                  clear hE hx
                  go_wp2_with fail
                  refine HSa.out.mono ?_
                  rintro e w9 ⟨rfl, n9, rfl⟩
                  have hz : Below w8.heap.size w8 (w8.drewN n9) := drewN_below w8 n9
                  have HSTz := Lib.hid (HSTn.out.below hz)
                  have HBz := Lib.hid (HB6.out.trans (hz.mono HB6.out.size))
                  clear hz
                  go_wp2_with fail
                  go_roundg (ys.length - i)
                  case measure => omega
                  case rel => exact ⟨i + 1, at2, p2, mm, by omega, by go_num, by go_num, hat2, rfl, HSTz.out, HBz.out⟩
                · have HSa := same_ok pm ph cm ch mm hv2 w8 HTM.out HTH.out hl1
                  rw [decide_eq_false hE] at HSa
                  replace HSa := Lib.hid HSa
                  have HSb := Lib.hid (show ∀ n9 : Nat, Calls Tryz.prog 15 #[.slice pm mm.length cm, .slice up un.length uc] (w8.drewN n9) (fun e w' => e = .returned (.bool true) ∧ ∃ n, w' = (w8.drewN n9).drewN n) from fun n9 => by
                    have := same_ok pm up cm uc mm un (w8.drewN n9) (HTM.out.grown (drewN_below w8 n9)) (HTU8.out.grown (drewN_below w8 n9)) hl1
                    rw [decide_eq_true (hx.resolve_left hE)] at this
                    exact this)
                  clear hE hx
                  go_wp2_with fail
                  refine HSa.out.mono ?_
                  rintro e w9 ⟨rfl, n9, rfl⟩
                  go_wp2_with fail
                  refine (HSb.out n9).mono ?_
                  rintro e w9 ⟨rfl, n10, rfl⟩
                  have hz : Below w8.heap.size w8 (w8.drewN (n9 + n10)) := drewN_below w8 (n9 + n10)
                  have HSTz := Lib.hid (HSTn.out.below hz)
                  have HBz := Lib.hid (HB6.out.trans (hz.mono HB6.out.size))
                  clear hz
                  go_wp2_with fail
                  go_roundg (ys.length - i)
                  case measure => omega
                  case rel => exact ⟨i + 1, at2, p2, mm, by omega, by go_num, by go_num, hat2, rfl, HSTz.out, HBz.out⟩
              · have HSa := begins_ok ph pm ch cm hv2 mm w8 HTH.out HTM.out hl2 hcm
                have hle : hv2.length ≤ mm.length := by rw [hx, List.length_append]; omega
                rw [decide_eq_true hle, decide_eq_true (show hv2 = mm.take hv2.length by rw [hx, List.take_left' rfl])] at HSa
                replace HSa := Lib.hid HSa
                have hlk : (un.take kx).length = mm.length - hv2.length := by rw [hx, List.length_append]; omega
                by_cases h0 : mm.length - hv2.length = 0
                · have HSb := Lib.hid (show ∀ (n9 : Nat) (P : Option Addr) (C : Nat), Calls Tryz.prog 16 #[.slice P 0 C, .slice up un.length uc] (w8.drewN n9) (fun e w' => e = .returned (.bool true) ∧ ∃ n, w' = (w8.drewN n9).drewN n) from fun n9 P C => begins_ok P up C uc [] un (w8.drewN n9) (fun i x h => by cases h) (HTU8.out.grown (drewN_below w8 n9)) (by simp) huc)
                  clear hx hlk
                  go_wp2_with fail
                  refine HSa.out.mono ?_
                  rintro e w9 ⟨rfl, n9, rfl⟩
                  go_wp2_with fail
                  all_goals
                    refine (HSb.out n9 _ _).mono ?_
                    rintro e w9 ⟨rfl, n10, rfl⟩
                    have hz : Below w8.heap.size w8 (w8.drewN (n9 + n10)) := drewN_below w8 (n9 + n10)
                    have HSTz := Lib.hid (HSTn.out.below hz)
                    have HBz := Lib.hid (HB6.out.trans (hz.mono HB6.out.size))
                    clear hz
                    go_wp2_with fail
                    go_roundg (ys.length - i)
                    case measure => omega
                    case rel =>
                      first
                        | exact ⟨i + 1, at2, p2, mm, by omega, by go_num, by go_num, hat2, rfl, HSTz.out, HBz.out⟩
                        | exact ⟨i + 1, at2, p2, mm, by omega, by go_num, by go_num, hat2, rfl, (by have h9 : cm = hv2.length := (by assumption); rw [← h9]; exact HSTz.out), HBz.out⟩
                · obtain ⟨g, rfl⟩ : ∃ g, pm = some ⟨g, 0, none⟩ := hpm.elim (fun h => by have := h.2; omega) id
                  have hcne : ¬ cm = hv2.length := by omega
                  have hTD : TextsIn w8 (some ⟨g, hv2.length, none⟩) (un.take kx) := by
                    intro i2 x2 hx2
                    have hx3 : mm[hv2.length + i2]? = some x2 := by
                      rw [hx, List.getElem?_append_right (by omega), show hv2.length + i2 - hv2.length = i2 by omega]
                      exact hx2
                    obtain ⟨b3, o3, q1, q2⟩ := HTM.out _ x2 hx3
                    simp only [Option.some.injEq, Addr.mk.injEq] at q1
                    obtain ⟨rfl, rfl, -⟩ := q1
                    exact ⟨g, hv2.length, rfl, by rw [Nat.zero_add] at q2; exact q2⟩
                  have HSb := Lib.hid (show ∀ n9 : Nat, Calls Tryz.prog 16 #[.slice (some ⟨g, hv2.length, none⟩) (mm.length - hv2.length) (cm - hv2.length), .slice up un.length uc] (w8.drewN n9) (fun e w' => e = .returned (.bool true) ∧ ∃ n, w' = (w8.drewN n9).drewN n) from fun n9 => by
                    have := begins_ok (some ⟨g, hv2.length, none⟩) up (cm - hv2.length) uc (un.take kx) un (w8.drewN n9) (hTD.grown (drewN_below w8 n9)) (HTU8.out.grown (drewN_below w8 n9)) (by rw [List.length_take]; omega) huc
                    rw [decide_eq_true (show (un.take kx).length ≤ un.length by rw [List.length_take]; omega), decide_eq_true (take_same un kx), hlk] at this
                    exact this)
                  clear hx hlk hTD h0
                  go_wp2_with fail
                  refine HSa.out.mono ?_
                  rintro e w9 ⟨rfl, n9, rfl⟩
                  go_wp2_with fail
                  refine (HSb.out n9).mono ?_
                  rintro e w9 ⟨rfl, n10, rfl⟩
                  have hz : Below w8.heap.size w8 (w8.drewN (n9 + n10)) := drewN_below w8 (n9 + n10)
                  have HSTz := Lib.hid (HSTn.out.below hz)
                  have HBz := Lib.hid (HB6.out.trans (hz.mono HB6.out.size))
                  clear hz
                  go_wp2_with fail
                  go_roundg (ys.length - i)
                  case measure => omega
                  case rel => exact ⟨i + 1, at2, p2, mm, by omega, by go_num, by go_num, hat2, rfl, HSTz.out, HBz.out⟩
end Go.Proofs.YtajkldmpllphjaaGreatDoor
