/-
  JournalFull's contract: what has no room changes nothing. The conditions: the program's contracts; the script's cells.
-/
import Derived.Test.YtajkldmpllphjaaGreatDoorPart03
import Derived.Test.YtajkldmpllphjaaGreatDoorPart04
namespace Go.Proofs.YtajkldmpllphjaaGreatDoor
open Go.RowKit BlockMath TextNat JournalMath

/-- What a Put or a Start comes to where there is no fuse. -/
def Stepped (D : Dev) (J : Jrn) (w w' : World) (p ba bb : Nat) (S : Nat → Prop) (j : Jn) (hv nx : List ByteArray) (x : Value) : Prop :=
  ∃ j' S', Trio D J w' p ba bb S' j' ∧ (∀ k, S' k → S k ∨ w.heap.size ≤ k) ∧ Apart S w w' ∧ j'.a.fuse = -1 ∧ j'.b.fuse = -1 ∧
    ((x = .nilIface ∧ Live j' (nx.map nats)) ∨ ∃ c, (c = 3 ∨ c = 4) ∧ ErrIs w' c x ∧ Live j' (hv.map nats) ∧ size j'.cur = size j.cur ∧ j'.gen = j.gen)
theorem nats_oct (l : List ByteArray) : ∀ t ∈ l.map nats, FrameMath.Oct t := by
  intro t ht
  obtain ⟨s, _, rfl⟩ := List.mem_map.1 ht
  exact nats_lt s
theorem still_sizes {d d' : Dk} {l : List Nat} (h : Still d l) (h' : Still d' l) : size d' = size d := by
  rw [size_on h.off, size_on h'.off, h.size, h'.size]
section
variable {D : Dev} {J : Jrn} {w : World} {p ba bb : Nat} {S : Nat → Prop} {j : Jn} {hv : List ByteArray} {pp : Option Addr} {cap : Nat} {xs : List ByteArray}
theorem put_full (hP : PutOk D J) (hT : Tables w) (hfar : Far S) (h : Trio D J w p ba bb S j) (hl : Live j (hv.map nats)) (fa : j.a.fuse = -1) (fb : j.b.fuse = -1) (ht : TextsIn w pp xs) (hs : Small xs) (hc : xs.length ≤ cap) (hn : ∀ a, pp = some a → 0 < xs.length → ¬ S a.block) :
    Calls Tryz.prog 11 #[ptr p, .slice pp xs.length cap] w fun e w' => ∃ x, e = .returned x ∧ Stepped D J w w' p ba bb S j hv (hv ++ xs) x := by
  refine (hP p ba bb S j pp cap xs w h hT hfar ht hs hc hn).mono ?_
  rintro e w' ⟨⟨x, rfl, hx⟩, ⟨S', h1, h2⟩, h3⟩
  refine ⟨x, rfl, _, S', h1, h2, h3, ?_⟩
  rcases put_step hl (nats_oct xs) with ⟨e0, q1, q2, q3, _⟩ | ⟨e0, q1, _⟩ | ⟨e0, q1, q2, q3, _, q5⟩ | ⟨_, _, q2, _⟩
  · exact ⟨q2.fa fa, q2.fb fb, .inl ⟨hx.zero e0, by rw [List.map_append]; exact q1⟩⟩
  · rw [q1]
    exact ⟨fa, fb, .inr ⟨3, .inl rfl, by have := hx.not (by rw [e0]; decide); rwa [e0] at this, hl, rfl, rfl⟩⟩
  · obtain ⟨ps, c1, _⟩ := hl.cur
    exact ⟨q2.fa fa, q2.fb fb, .inr ⟨4, .inr rfl, by have := hx.not (by rw [e0]; decide); rwa [e0] at this, q1, still_sizes c1 (q5 _ c1).1, q3⟩⟩
  · exfalso
    apply q2
    unfold Jn.cur
    split
    · exact fb
    · exact fa
theorem start_full (hP : StartOk D J) (hT : Tables w) (hfar : Far S) (h : Trio D J w p ba bb S j) (hl : Live j (hv.map nats)) (fa : j.a.fuse = -1) (fb : j.b.fuse = -1) (ht : TextsIn w pp xs) (hs : Small xs) (hc : xs.length ≤ cap) (hn : ∀ a, pp = some a → 0 < xs.length → ¬ S a.block) :
    Calls Tryz.prog 12 #[ptr p, .slice pp xs.length cap] w fun e w' => ∃ x, e = .returned x ∧ Stepped D J w w' p ba bb S j hv xs x := by
  refine (hP p ba bb S j pp cap xs w h hT hfar ht hs hc hn).mono ?_
  rintro e w' ⟨⟨x, rfl, hx⟩, ⟨S', h1, h2⟩, h3⟩
  refine ⟨x, rfl, _, S', h1, h2, h3, ?_⟩
  rcases start_step hl (nats_oct xs) (by rw [List.length_map]; have := hs.few; omega) with ⟨e0, q1, q2, q3, _⟩ | ⟨e0, q1, _⟩ | ⟨e0, q1, q2, q3, _, q5, _⟩ | ⟨_, _, q2, _⟩
  · exact ⟨q2.fa fa, q2.fb fb, .inl ⟨hx.zero e0, q1⟩⟩
  · rw [q1]
    exact ⟨fa, fb, .inr ⟨3, .inl rfl, by have := hx.not (by rw [e0]; decide); rwa [e0] at this, hl, rfl, rfl⟩⟩
  · exact ⟨q2.fa fa, q2.fb fb, .inr ⟨4, .inr rfl, by have := hx.not (by rw [e0]; decide); rwa [e0] at this, q1, by rw [q5], q3⟩⟩
  · exfalso
    apply q2
    unfold Jn.spare
    split
    · exact fa
    · exact fb
end
/-- Where the law stands: the journal, its devices, and the row of what is acknowledged. -/
structure Stand (D : Dev) (J : Jrn) (B : Nat) (w : World) (p ba bb : Nat) (v : Value) (hv : List ByteArray) (m : Nat) : Prop where
  is : ∃ j S, Trio D J w p ba bb S j ∧ (∀ k, S k → B ≤ k) ∧ RowT w B v hv ∧ (∀ k, v.ownBlock = some k → ¬ S k) ∧ Live j (hv.map nats) ∧ j.a.fuse = -1 ∧ j.b.fuse = -1 ∧ hv.length ≤ m
theorem Stand.below {D : Dev} {J : Jrn} {B p ba bb m : Nat} {w w' : World} {v : Value} {hv : List ByteArray} (h : Stand D J B w p ba bb v hv m) (hb : Below w.heap.size w w') : Stand D J B w' p ba bb v hv m := by
  obtain ⟨j, S, h1, h2, h3, h4⟩ := h.is
  exact ⟨j, S, h1.stays hb.size fun k hk => hb.block k (h1.lt k hk), h2, h3.below hb, h4⟩
/-- An op's own copy. -/
def OpAt (w : World) (b : Nat) (k : Int) (x : Op) : Prop := Lies w b [.int .i64 k, .slice x.lp x.l.length x.lc, .bool x.dev, .int .i64 x.n, .int .i64 x.m, .string x.s] 41
theorem OpsIn.low {w : World} {pp : Option Addr} {xs : List Op} (h : OpsIn w pp xs) {i : Nat} {x : Op} (hx : xs[i]? = some x) : ∀ a, x.lp = some a → 0 < x.l.length → a.block < w.heap.size := by
  intro a ha h0
  obtain ⟨b, off, _, _, h3⟩ := h i x hx
  obtain ⟨b2, o2, h4, h5⟩ := h3 0 (x.l[0]'h0) (List.getElem?_eq_getElem h0)
  rw [ha] at h4
  rw [Option.some.inj h4]
  exact World.block_lt_of_cell? w _ h5
/-- What is behind a call that went well, texts appended. -/
theorem stand_more {D : Dev} {J : Jrn} {B p ba bb m : Nat} {w w' : World} {S : Nat → Prop} {j : Jn} {v v' : Value} {hv : List ByteArray} (hT : Trio D J w p ba bb S j) (hB : ∀ k, S k → B ≤ k) (hn : ∀ k, v.ownBlock = some k → ¬ S k) (hl : Live j (hv.map nats)) (fa : j.a.fuse = -1) (fb : j.b.fuse = -1) (hm : hv.length ≤ m)
    (hr : RowT w' B v' hv) (hg : w.grownBy w' v.ownBlock) (hv' : ∀ k, v'.ownBlock = some k → v.ownBlock = some k ∨ w.heap.size ≤ k) : Stand D J B w' p ba bb v' hv m := by
  refine ⟨j, S, hT.stays hg.size fun k hk => hg.block k (hT.lt k hk) fun e => hn k e.symm hk, hB, hr, fun k hk hs => ?_, hl, fa, fb, hm⟩
  rcases hv' k hk with h | h
  · exact hn k h hs
  · have := hT.lt k hs
    omega
theorem RowT.grown {B : Nat} {w w' : World} {v : Value} {hv : List ByteArray} (h : RowT w B v hv) (hB : B ≤ w.heap.size) (hg : w.grownBy w' v.ownBlock) : Below B w w' := (Below.refl B w).grown hg hB fun q hq => (OwnsM.lt h q hq).1
theorem row_made (w : World) (B : Nat) (hB : B ≤ w.heap.size) : RowT (w.alloc (.cells #[] 9)) B (.slice (some ⟨w.heap.size, 0, none⟩) 0 0) [] := ⟨rfl, .inr ⟨w.heap.size, 0, #[], 0, 0, rfl, hB, heap_alloc_new w _, .inl rfl, Nat.le_refl _, by unfold maxLen; omega, rfl, rfl⟩⟩
set_option maxRecDepth 100000 in
set_option maxHeartbeats 8000000 in
theorem full_true {D : Dev} {J : Jrn} (hW : Owns D) (hN : NewOk D) (hC : CrashOk D) (hO : OpenedOk D J) (hP : PutOk D J) (hG : GenOk D J) (hS : StartOk D J) (hZ : SizeOk D J)
    (r : Nat) (pp : Option Addr) (cap : Nat) (xs : List Op) (w : World) (hTb : Tables w) (hr : r < 65536) (h : OpsIn w pp xs) (hc : ∀ x ∈ xs, x.Can) (hlp : ∀ x ∈ xs, x.lp = none → x.lc = 0) (hl : xs.length ≤ 9223372036854775807) :
    Calls Tryz.prog 5 #[.int .u16 (r : Int), .slice pp xs.length cap] w fun e w' => e = .returned (.bool true) ∧ Below w.heap.size w w' := by
  have HA := Lib.hid (awake_true hW hN hC hO hP hG w hTb)
  have HTB := Lib.hid hTb
  have HGr := Lib.hid (fun w1 h1 => great_ok pp cap xs w1 h1 hc hl)
  have HI := Lib.hid h
  have HCan := Lib.hid hc
  have HLP := Lib.hid hlp
  obtain ⟨R, hR⟩ : ∃ R, R = r % 4000 := ⟨_, rfl⟩
  have H2 := Lib.hid (fun w => two_ok hW hN (R : Int) w (by omega) (by omega))
  have HON := Lib.hid (open_new (R := (R : Int)) (by omega) (by omega))
  have kr1 : IntKind.i64.wrap (r : Int) = (r : Int) := by rw [IntKind.wrap_i64]; omega
  have kr2 : (r : Int).tmod 4000 = (R : Int) := by rw [hR]; rfl
  have kr3 : IntKind.i64.wrap (R : Int) = (R : Int) := by rw [IntKind.wrap_i64]; omega
  replace hO := Lib.hid hO
  replace hP := Lib.hid hP
  replace hG := Lib.hid hG
  replace hC := Lib.hid hC
  replace hS := Lib.hid hS
  replace hZ := Lib.hid hZ
  clear hN hW h hc hlp hl hR hr
  go_enter Tryz.func5, Tryz.ntmps5
  go_wp2_with fail
  refine HA.out.mono ?_
  rintro e w0 ⟨rfl, hb⟩
  have HB := Lib.hid hb
  clear hb HA
  go_wp2_with fail
  refine (HGr.out w0 (HI.out.grown HB.out)).mono ?_
  rintro e w1 ⟨⟨g, rfl, hg⟩, hb⟩
  replace HB := Lib.hid (HB.out.trans (hb.mono HB.out.size))
  clear hb HGr
  cases g with
  | true =>
    clear hg
    go_wp2
    go_ret
    exact ⟨rfl, HB.out⟩
  | false =>
    obtain ⟨hg1, hg2⟩ := hg rfl
    have HSM := Lib.hid hg2
    clear hg hg2
    go_wp2_with fail
    refine (H2.out w1).mono ?_
    rintro e w2 ⟨⟨ba, bb, rfl, hd⟩, hb⟩
    have HD := Lib.hid hd
    have HB1 := Lib.hid hb
    have HBs := Lib.hid HB.out.size
    clear hd hb H2
    go_wp2_with fail
    refine (HD.out.opens hO.out ((HTB.out.grown HB.out).grown HB1.out) (HTB.out.grown HB.out).lt HB1.out.size).mono ?_
    rintro e w3 ⟨ho, hb⟩
    have HB2 := Lib.hid (HB1.out.trans hb)
    replace HB := Lib.hid (HB.out.trans (HB2.out.mono HB.out.size))
    clear hb HB1 HD
    rcases HON.out with ⟨j, o1, o2, o3, o4, o5, o6, o7, o8, -⟩ | ⟨⟨j, o1⟩, _⟩
    · rw [o1, if_pos rfl] at ho
      obtain ⟨p, v, S, rfl, hT, hSB, -, -⟩ := ho
      have HT := Lib.hid (show Trio D J w3 p ba bb S j from hT)
      have hlow : ∀ k, S k → w.heap.size ≤ k := fun k hk => Nat.le_trans HBs.out (hSB k hk)
      have HLv := Lib.hid o2
      have HFU := Lib.hid (And.intro o5 o6)
      clear hT hSB HON
      go_wp2_with fail
      have HST := Lib.hid (show Stand D J w.heap.size w3 p ba bb (.slice none 0 0) [] 0 from ⟨j, S, HT.out, hlow, RowT.nil _ _, (fun k hk => by cases hk), HLv.out, HFU.out.1, HFU.out.2, Nat.le_refl _⟩)
      go_loopg [10, 44] xs.length (fun gh s10 s44 wx => ∃ i : Nat, i + gh = xs.length ∧ s44 = .int .i64 (i : Int) ∧ (∃ hv, Stand D J w.heap.size wx p ba bb s10 hv (450 * i)) ∧ Below w.heap.size w wx)
      case atStart => exact ⟨0, by omega, by go_num, ⟨[], HST.out⟩, HB.out⟩
      case round =>
        obtain ⟨i, hi, rfl, ⟨hv, hst⟩, hb⟩ := hrel
        have HBw := Lib.hid hb
        have HStand := Lib.hid hst
        clear HT HLv HFU HST HB hlow hst hb o1 o2 o3 o4 o5 o6 o7 o8 HB2 HBs
        by_cases hin : i < xs.length
        case neg =>
          have u1 : decide ((i : Int) < (xs.length : Int)) = false := decide_eq_false (by omega)
          have u1' : decide (i < xs.length) = false := decide_eq_false hin
          obtain ⟨j, S, t1, t2, t3, t4, t5, t6, t7, t8⟩ := HStand.out.is
          obtain ⟨jz, mz, z1, _, z3, _⟩ := t5.after 0 0 ByteArray.empty ByteArray.empty
          rw [z3] at z1
          have HZ1 := Lib.hid z1
          obtain ⟨Sd, hd1, hd2⟩ := t1.duo
          have HD1 := Lib.hid hd1
          have HR1 := Lib.hid t3
          have HSB1 := Lib.hid (show ∀ k, Sd k → w.heap.size ≤ k from fun k hk => t2 k (hd2 k hk))
          have HNB1 := Lib.hid (show ∀ k, u10.ownBlock = some k → ¬ Sd k from fun k hk hs => t4 k hk (hd2 k hs))
          have HLN := Lib.hid t8
          clear t1 t2 t3 t4 t5 t6 t7 t8 z1 z3 hd1 hd2 HStand hin
          go_wp2_with fail
          refine (HD1.out.crash hC.out 0 ByteArray.empty (by unfold I64; decide) (by decide)).mono ?_
          rintro e w4 ⟨rfl, ⟨S2, hd, hg⟩, ha⟩
          have HD2 := Lib.hid hd.swap
          have HR2 := Lib.hid (HR1.out.apart ha HNB1.out)
          have HSB2 := Lib.hid (show ∀ k, S2 k → w.heap.size ≤ k from fun k hk => (hg k hk).elim (HSB1.out k) fun h => Nat.le_trans HBw.out.size h)
          have HNB2 := Lib.hid (show ∀ k, u10.ownBlock = some k → ¬ S2 k from fun k hk => not_in hg (OwnsM.lt HR1.out k hk).2 (HNB1.out k hk))
          have HB2 := Lib.hid (HBw.out.trans (apart_below HSB1.out HBw.out.size ha))
          clear hd hg ha HD1 HR1 HSB1 HNB1
          go_wp2_with fail
          refine (HD2.out.crash hC.out 0 ByteArray.empty (by unfold I64; decide) (by decide)).mono ?_
          rintro e w5 ⟨rfl, ⟨S3, hd, hg⟩, ha⟩
          have HD3 := Lib.hid hd.swap
          have HR3 := Lib.hid (HR2.out.apart ha HNB2.out)
          have HSB3 := Lib.hid (show ∀ k, S3 k → w.heap.size ≤ k from fun k hk => (hg k hk).elim (HSB2.out k) fun h => Nat.le_trans HB2.out.size h)
          have HNB3 := Lib.hid (show ∀ k, u10.ownBlock = some k → ¬ S3 k from fun k hk => not_in hg (OwnsM.lt HR2.out k hk).2 (HNB2.out k hk))
          have HB3 := Lib.hid (HB2.out.trans (apart_below HSB2.out HB2.out.size ha))
          clear hd hg ha HD2 HR2 HSB2 HNB2
          go_wp2_with fail
          refine (hO.out ba bb S3 _ _ w5 HD3.out (HTB.out.grown HB3.out) (far_of HTB.out.lt HSB3.out)).mono ?_
          rintro e w6 ⟨ho, ha⟩
          rw [HZ1.out, if_pos rfl] at ho
          obtain ⟨p2, v2, S4, rfl, -, -, hr2, -⟩ := ho
          have hmm : (hv.map nats).map txt = hv := by
            rw [List.map_map]
            conv => rhs; rw [← List.map_id hv]
            exact List.map_congr_left fun s _ => txt_nats s
          rw [hmm] at hr2
          have HR4 := HR3.out.apart ha HNB3.out
          have HB4 := Lib.hid (HB3.out.trans (apart_below HSB3.out HB3.out.size ha))
          obtain ⟨pa, ca, rfl, -, -⟩ := hr2.shape
          obtain ⟨pb, cb, hvv, -, -⟩ := HR4.shape
          subst hvv
          have HSa := same_ok pa pb ca cb hv hv w6 hr2.texts HR4.texts (by have := HLN.out; omega)
          rw [decide_eq_true rfl] at HSa
          replace HSa := Lib.hid HSa
          clear hr2 HR4 ha hmm HD3 HR3 HSB3 HNB3
          go_wp2_with fail
          refine HSa.out.mono ?_
          rintro e w7 ⟨rfl, m7, rfl⟩
          go_wp2
          go_ret
          exact ⟨by first | rfl | simp, ⟨HB4.out.os, HB4.out.tape, HB4.out.output, HB4.out.size, HB4.out.block⟩⟩
        case pos =>
          have u1 : decide ((i : Int) < (xs.length : Int)) = true := decide_eq_true (by omega)
          have u1' : decide (i < xs.length) = true := decide_eq_true hin
          have k1 : IntKind.i64.wrap ((i : Int) + 1) = (i : Int) + 1 := by rw [IntKind.wrap_i64]; omega
          obtain ⟨x, hx⟩ : ∃ x, xs[i]? = some x := ⟨_, List.getElem?_eq_getElem hin⟩
          have hxm := List.mem_of_getElem? hx
          have HLB := Lib.hid (HI.out.low hx)
          obtain ⟨b, off, rfl, d0, d1, d2, d3, d4, d5, htx⟩ := (HI.out.grown HBw.out).six hx
          obtain ⟨kk, hkk⟩ : ∃ kk, kk = x.k := ⟨_, rfl⟩
          rw [← hkk] at d0
          clear hkk
          have HTX := Lib.hid htx
          have HK := Lib.hid (HCan.out x hxm)
          have HX := Lib.hid (HSM.out x hxm)
          have HP0 := Lib.hid (HLP.out x hxm)
          have hal : Below wr.heap.size wr (wr.alloc (.cells #[.int .i64 kk, .slice x.lp x.l.length x.lc, .bool x.dev, .int .i64 x.n, .int .i64 x.m, .string x.s] 41)) := (Below.refl _ _).alloc (Nat.le_refl _) _
          have HST1 := Lib.hid (HStand.out.below hal)
          have HB1 := Lib.hid (HBw.out.trans (hal.mono HBw.out.size))
          have HTX1 := Lib.hid (HTX.out.grown hal)
          have HOP1 := Lib.hid (show OpAt (wr.alloc (.cells #[.int .i64 kk, .slice x.lp x.l.length x.lc, .bool x.dev, .int .i64 x.n, .int .i64 x.m, .string x.s] 41)) wr.heap.size kk x from Lies.new wr [.int .i64 kk, .slice x.lp x.l.length x.lc, .bool x.dev, .int .i64 x.n, .int .i64 x.m, .string x.s] 41)
          have HWB := Lib.hid HBw.out.size
          have HAL := Lib.hid hal
          clear hx hxm htx hal
          by_cases hk : kk = 0 ∨ kk = 1
          case neg =>
            have v0 : (kk == 0) = false := by rw [beq_eq_false_iff_ne]; omega
            have v1 : (kk == 1) = false := by rw [beq_eq_false_iff_ne]; omega
            have w0 : ¬ kk = 0 := by omega
            have w1 : ¬ kk = 1 := by omega
            have v0' : (kk != 0) = true := by rw [bne, v0]; rfl
            have v1' : (kk != 1) = true := by rw [bne, v1]; rfl
            have HST2 := Lib.hid (show Stand D J w.heap.size _ p ba bb _ hv (450 * (i + 1)) from by
              obtain ⟨j, S, h1, h2, h3, h4, h5, h6, h7, h8⟩ := HST1.out.is
              exact ⟨j, S, h1, h2, h3, h4, h5, h6, h7, by omega⟩)
            clear hk
            go_wp2_with fail
            go_roundg (xs.length - (i + 1))
            case measure => omega
            case rel => exact ⟨i + 1, by omega, by go_num, ⟨hv, HST2.out⟩, HB1.out⟩
          case pos =>
            -- ahead of the call: Size and Gen
            obtain ⟨j, S, t1, t2, t3, t4, t5, t6, t7, t8⟩ := HStand.out.is
            have HLT := Lib.hid t1.lt
            have HT1 := Lib.hid (t1.stays HAL.out.size fun k hk => HAL.out.block k (t1.lt k hk))
            have HSB := Lib.hid t2
            have HR1 := Lib.hid (t3.below HAL.out)
            have HNB := Lib.hid t4
            have HLV := Lib.hid t5
            have HFA := Lib.hid t6
            have HFB := Lib.hid t7
            have HLN := Lib.hid t8
            clear t1 t2 t3 t4 t5 t6 t7 t8 HST1 HStand HTX
            obtain ⟨W1, hW1⟩ : ∃ W1, W1 = wr.alloc (.cells #[.int .i64 kk, .slice x.lp x.l.length x.lc, .bool x.dev, .int .i64 x.n, .int .i64 x.m, .string x.s] 41) := ⟨_, rfl⟩
            have e0 := HOP1.out.cell (i := 0) rfl
            rcases hk with rfl | rfl
            · go_wp2_with fail
              rw [← hW1] at HT1 HR1 HB1 HTX1 HOP1 ⊢
              refine (hZ.out p ba bb S j W1 HT1.out).mono ?_
              rintro e w4 ⟨rfl, hb⟩
              have HT4 := Lib.hid (HT1.out.stays hb.size fun k hk => hb.block k (HT1.out.lt k hk))
              have HR4 := Lib.hid (HR1.out.below hb)
              have HB4 := Lib.hid (HB1.out.trans (hb.mono HB1.out.size))
              have HTX4 := Lib.hid (HTX1.out.grown hb)
              have HOP4 := Lib.hid (Lies.below HOP1.out hb)
              clear hb HT1 HR1 HB1 HTX1 HOP1 hW1 e0
              go_wp2_with fail
              refine (hG.out p ba bb S j w4 HT4.out).mono ?_
              rintro e w5 ⟨rfl, hb⟩
              have HT5 := Lib.hid (HT4.out.stays hb.size fun k hk => hb.block k (HT4.out.lt k hk))
              have HR5 := Lib.hid (HR4.out.below hb)
              have HB5 := Lib.hid (HB4.out.trans (hb.mono HB4.out.size))
              have HTX5 := Lib.hid (HTX4.out.grown hb)
              have HOP5 := Lib.hid (Lies.below HOP4.out hb)
              clear hb HT4 HR4 HB4 HTX4 HOP4
              have e0 := HOP5.out.cell (i := 0) rfl
              have e1 := HOP5.out.cell (i := 1) rfl
              go_wp2_with fail
              refine (put_full hP.out (HTB.out.grown HB5.out) (far_of HTB.out.lt HSB.out) HT5.out HLV.out HFA.out HFB.out HTX5.out HX.out HK.out.cap (fun a ha h0 hs => by have := HLB.out a ha h0; have := HSB.out _ hs; omega)).mono ?_
              rintro e w6 ⟨x1, rfl, j', S', q1, q2, q3, q4, q5, q6⟩
              have HT6 := Lib.hid q1
              have HR6 := Lib.hid (HR5.out.apart q3 HNB.out)
              have HSB6 := Lib.hid (show ∀ k, S' k → w.heap.size ≤ k from fun k hk => (q2 k hk).elim (HSB.out k) fun h => Nat.le_trans HB5.out.size h)
              have HNB6 := Lib.hid (show ∀ k, u10.ownBlock = some k → ¬ S' k from fun k hk => not_in q2 (OwnsM.lt HR5.out k hk).2 (HNB.out k hk))
              have HB6 := Lib.hid (HB5.out.trans (apart_below HSB.out HB5.out.size q3))
              have HOP6 := Lib.hid (show OpAt w6 wr.heap.size 0 x from (q3.block _ (Lies.lt HOP5.out) fun hs => Nat.lt_irrefl _ (HLT.out _ hs)).trans HOP5.out)
              have HTX6 := Lib.hid (show TextsIn w6 x.lp x.l from fun i y hy => by
                obtain ⟨b2, o2, h4, h5⟩ := HTX5.out i y hy
                have hlow : b2 < w.heap.size := HLB.out ⟨b2, o2, none⟩ h4 (Nat.lt_of_le_of_lt (Nat.zero_le i) (List.getElem?_eq_some_iff.1 hy).1)
                exact ⟨b2, o2, h4, (World.cell?_of_block (w := w5) (a := ⟨b2, o2 + i, none⟩) (q3.block b2 (World.block_lt_of_cell? w5 _ h5) fun hs => by have := HSB.out _ hs; omega)).trans h5⟩)
              have HF6 := Lib.hid (And.intro q4 q5)
              clear q1 q2 q3 q4 q5 HT5 HR5 HTX5 HOP5 HSB HNB HLV HFA HFB e0 e1
              have e0 := HOP6.out.cell (i := 0) rfl
              have e1 := HOP6.out.cell (i := 1) rfl
              rcases q6 with ⟨rfl, q7⟩ | ⟨c, hc, q8, q7, q9, q10⟩
              · have HL6 := Lib.hid q7
                clear q7
                go_wp2_with (
                  at_builtin
                  refine app_row rfl _ _ rfl w.heap.size u10 hv rfl HR6.out x.lp x.lc x.l rfl HTX6.out HP0.out HK.out.cap (by have := HLN.out; have := HX.out.few; omega) HB6.out.size ?_
                  intro v7 w7 r7 g7 n7
                  have HST7 := Lib.hid (stand_more (m := 450 * (i + 1)) HT6.out HSB6.out HNB6.out HL6.out HF6.out.1 HF6.out.2 (by rw [List.length_append]; have := HLN.out; have := HX.out.few; omega) r7 g7 n7)
                  have HB7 := Lib.hid (HB6.out.trans (RowT.grown HR6.out HB6.out.size g7))
                  clear r7 g7 n7 e0 e1)
                go_roundg (xs.length - (i + 1))
                case measure => omega
                case rel => exact ⟨i + 1, by omega, by go_num, ⟨_, HST7.out⟩, HB7.out⟩
              · have HL6 := Lib.hid q7
                have HX6 := Lib.hid q8
                obtain ⟨T, y, rfl⟩ := q8.iface
                have HJ6 := Lib.hid (And.intro q9 q10)
                clear q7 q8 q9 q10
                go_wp2_with fail
                refine (hZ.out p ba bb S' j' w6 HT6.out).mono ?_
                rintro e w7 ⟨rfl, hb⟩
                rw [HJ6.out.1]
                have HT7 := Lib.hid (HT6.out.stays hb.size fun k hk => hb.block k (HT6.out.lt k hk))
                have HR7 := Lib.hid (HR6.out.below hb)
                have HB7 := Lib.hid (HB6.out.trans (hb.mono HB6.out.size))
                have HX7 := Lib.hid (HX6.out.below hb)
                clear hb e0 e1 HT6 HR6 HB6 HX6 HOP6 HTX6
                go_wp2_with fail
                refine (hG.out p ba bb S' j' w7 HT7.out).mono ?_
                rintro e w8 ⟨rfl, hb⟩
                rw [HJ6.out.2]
                have HT8 := Lib.hid (HT7.out.stays hb.size fun k hk => hb.block k (HT7.out.lt k hk))
                have HR8 := Lib.hid (HR7.out.below hb)
                have HB8 := Lib.hid (HB7.out.trans (hb.mono HB7.out.size))
                have HX8 := Lib.hid (HX7.out.below hb)
                clear hb HT7 HR7 HB7 HX7
                have HST8 := Lib.hid (show Stand D J w.heap.size w8 p ba bb u10 hv (450 * (i + 1)) from ⟨j', S', HT8.out, HSB6.out, HR8.out, HNB6.out, HL6.out, HF6.out.1, HF6.out.2, by have := HLN.out; omega⟩)
                go_wp2_with fail
                refine (is_err HX8.out 4).mono ?_
                rintro e w9 ⟨rfl, rfl⟩
                rcases hc with rfl | rfl
                · go_wp2_with fail
                  refine (is_err HX8.out 3).mono ?_
                  rintro e w9 ⟨rfl, rfl⟩
                  go_wp2_with fail
                  go_roundg (xs.length - (i + 1))
                  case measure => omega
                  case rel => exact ⟨i + 1, by omega, by go_num, ⟨_, HST8.out⟩, HB8.out⟩
                · go_wp2_with fail
                  go_roundg (xs.length - (i + 1))
                  case measure => omega
                  case rel => exact ⟨i + 1, by omega, by go_num, ⟨_, HST8.out⟩, HB8.out⟩
            · go_wp2_with fail
              rw [← hW1] at HT1 HR1 HB1 HTX1 HOP1 ⊢
              refine (hZ.out p ba bb S j W1 HT1.out).mono ?_
              rintro e w4 ⟨rfl, hb⟩
              have HT4 := Lib.hid (HT1.out.stays hb.size fun k hk => hb.block k (HT1.out.lt k hk))
              have HR4 := Lib.hid (HR1.out.below hb)
              have HB4 := Lib.hid (HB1.out.trans (hb.mono HB1.out.size))
              have HTX4 := Lib.hid (HTX1.out.grown hb)
              have HOP4 := Lib.hid (Lies.below HOP1.out hb)
              clear hb HT1 HR1 HB1 HTX1 HOP1 hW1 e0
              go_wp2_with fail
              refine (hG.out p ba bb S j w4 HT4.out).mono ?_
              rintro e w5 ⟨rfl, hb⟩
              have HT5 := Lib.hid (HT4.out.stays hb.size fun k hk => hb.block k (HT4.out.lt k hk))
              have HR5 := Lib.hid (HR4.out.below hb)
              have HB5 := Lib.hid (HB4.out.trans (hb.mono HB4.out.size))
              have HTX5 := Lib.hid (HTX4.out.grown hb)
              have HOP5 := Lib.hid (Lies.below HOP4.out hb)
              clear hb HT4 HR4 HB4 HTX4 HOP4
              have e0 := HOP5.out.cell (i := 0) rfl
              have e1 := HOP5.out.cell (i := 1) rfl
              go_wp2_with fail
              refine (start_full hS.out (HTB.out.grown HB5.out) (far_of HTB.out.lt HSB.out) HT5.out HLV.out HFA.out HFB.out HTX5.out HX.out HK.out.cap (fun a ha h0 hs => by have := HLB.out a ha h0; have := HSB.out _ hs; omega)).mono ?_
              rintro e w6 ⟨x1, rfl, j', S', q1, q2, q3, q4, q5, q6⟩
              have HT6 := Lib.hid q1
              have HR6 := Lib.hid (HR5.out.apart q3 HNB.out)
              have HSB6 := Lib.hid (show ∀ k, S' k → w.heap.size ≤ k from fun k hk => (q2 k hk).elim (HSB.out k) fun h => Nat.le_trans HB5.out.size h)
              have HNB6 := Lib.hid (show ∀ k, u10.ownBlock = some k → ¬ S' k from fun k hk => not_in q2 (OwnsM.lt HR5.out k hk).2 (HNB.out k hk))
              have HB6 := Lib.hid (HB5.out.trans (apart_below HSB.out HB5.out.size q3))
              have HOP6 := Lib.hid (show OpAt w6 wr.heap.size 1 x from (q3.block _ (Lies.lt HOP5.out) fun hs => Nat.lt_irrefl _ (HLT.out _ hs)).trans HOP5.out)
              have HTX6 := Lib.hid (show TextsIn w6 x.lp x.l from fun i y hy => by
                obtain ⟨b2, o2, h4, h5⟩ := HTX5.out i y hy
                have hlow : b2 < w.heap.size := HLB.out ⟨b2, o2, none⟩ h4 (Nat.lt_of_le_of_lt (Nat.zero_le i) (List.getElem?_eq_some_iff.1 hy).1)
                exact ⟨b2, o2, h4, (World.cell?_of_block (w := w5) (a := ⟨b2, o2 + i, none⟩) (q3.block b2 (World.block_lt_of_cell? w5 _ h5) fun hs => by have := HSB.out _ hs; omega)).trans h5⟩)
              have HF6 := Lib.hid (And.intro q4 q5)
              clear q1 q2 q3 q4 q5 HT5 HR5 HTX5 HOP5 HSB HNB HLV HFA HFB e0 e1
              have e0 := HOP6.out.cell (i := 0) rfl
              have e1 := HOP6.out.cell (i := 1) rfl
              rcases q6 with ⟨rfl, q7⟩ | ⟨c, hc, q8, q7, q9, q10⟩
              · have HL6 := Lib.hid q7
                clear q7
                have hal7 : Below w6.heap.size w6 (w6.alloc (.cells #[] 9)) := (Below.refl _ _).alloc (Nat.le_refl _) _
                have HR7 := Lib.hid (row_made w6 w.heap.size HB6.out.size)
                have HT7 := Lib.hid (HT6.out.stays hal7.size fun k hk => hal7.block k (HT6.out.lt k hk))
                have HTX7 := Lib.hid (HTX6.out.grown hal7)
                have HB7 := Lib.hid (HB6.out.trans (hal7.mono HB6.out.size))
                have HN7 := Lib.hid (show ∀ k, (Value.slice (some ⟨w6.heap.size, 0, none⟩) 0 0).ownBlock = some k → ¬ S' k from fun k hk hs => by
                  have := HT6.out.lt k hs
                  simp [Value.ownBlock] at hk
                  omega)
                have e1' : (w6.alloc (.cells #[] 9)).cell? ⟨wr.heap.size, 1, none⟩ = some (.slice x.lp x.l.length x.lc) := (Lies.below HOP6.out hal7).cell (i := 1) rfl
                clear hal7
                go_wp2_with (
                  at_builtin
                  refine app_row rfl _ _ rfl w.heap.size _ [] rfl HR7.out x.lp x.lc x.l rfl HTX7.out HP0.out HK.out.cap (by have := HX.out.few; simp; omega) HB7.out.size ?_
                  intro v8 w8 r8 g8 n8
                  rw [List.nil_append] at r8
                  have HST8 := Lib.hid (stand_more (m := 450 * (i + 1)) HT7.out HSB6.out HN7.out HL6.out HF6.out.1 HF6.out.2 (by have := HX.out.few; omega) r8 g8 n8)
                  have HB8 := Lib.hid (HB7.out.trans (RowT.grown HR7.out HB7.out.size g8))
                  clear r8 g8 n8 e0 e1 e1')
                go_roundg (xs.length - (i + 1))
                case measure => omega
                case rel => exact ⟨i + 1, by omega, by go_num, ⟨_, HST8.out⟩, HB8.out⟩
              · have HL6 := Lib.hid q7
                have HX6 := Lib.hid q8
                obtain ⟨T, y, rfl⟩ := q8.iface
                have HJ6 := Lib.hid (And.intro q9 q10)
                clear q7 q8 q9 q10
                go_wp2_with fail
                refine (hZ.out p ba bb S' j' w6 HT6.out).mono ?_
                rintro e w7 ⟨rfl, hb⟩
                rw [HJ6.out.1]
                have HT7 := Lib.hid (HT6.out.stays hb.size fun k hk => hb.block k (HT6.out.lt k hk))
                have HR7 := Lib.hid (HR6.out.below hb)
                have HB7 := Lib.hid (HB6.out.trans (hb.mono HB6.out.size))
                have HX7 := Lib.hid (HX6.out.below hb)
                clear hb e0 e1 HT6 HR6 HB6 HX6 HOP6 HTX6
                go_wp2_with fail
                refine (hG.out p ba bb S' j' w7 HT7.out).mono ?_
                rintro e w8 ⟨rfl, hb⟩
                rw [HJ6.out.2]
                have HT8 := Lib.hid (HT7.out.stays hb.size fun k hk => hb.block k (HT7.out.lt k hk))
                have HR8 := Lib.hid (HR7.out.below hb)
                have HB8 := Lib.hid (HB7.out.trans (hb.mono HB7.out.size))
                have HX8 := Lib.hid (HX7.out.below hb)
                clear hb HT7 HR7 HB7 HX7
                have HST8 := Lib.hid (show Stand D J w.heap.size w8 p ba bb u10 hv (450 * (i + 1)) from ⟨j', S', HT8.out, HSB6.out, HR8.out, HNB6.out, HL6.out, HF6.out.1, HF6.out.2, by have := HLN.out; omega⟩)
                go_wp2_with fail
                refine (is_err HX8.out 4).mono ?_
                rintro e w9 ⟨rfl, rfl⟩
                rcases hc with rfl | rfl
                · go_wp2_with fail
                  refine (is_err HX8.out 3).mono ?_
                  rintro e w9 ⟨rfl, rfl⟩
                  go_wp2_with fail
                  go_roundg (xs.length - (i + 1))
                  case measure => omega
                  case rel => exact ⟨i + 1, by omega, by go_num, ⟨_, HST8.out⟩, HB8.out⟩
                · go_wp2_with fail
                  go_roundg (xs.length - (i + 1))
                  case measure => omega
                  case rel => exact ⟨i + 1, by omega, by go_num, ⟨_, HST8.out⟩, HB8.out⟩
    · rw [o1, if_neg (show ¬ (4 : Int) = 0 by decide)] at ho
      obtain ⟨pp0, cap0, x, rfl, hx⟩ := ho
      have HX := Lib.hid (show ErrIs w3 4 x from hx)
      obtain ⟨T, y, rfl⟩ := hx.iface
      clear hx HON
      go_wp2_with fail
      refine (is_err HX.out 4).mono ?_
      rintro e w9 ⟨rfl, rfl⟩
      go_wp2
      go_ret
      exact ⟨rfl, HB.out⟩
end Go.Proofs.YtajkldmpllphjaaGreatDoor
