/-
  JournalTurned's contract: a byte turned ahead of the last Mark is told. The conditions: the program's contracts; the document's Seal; the script's cells.
-/
import Derived.Test.YtajkldmpllphjaaGreatDoorJournalFull
namespace Go.Proofs.YtajkldmpllphjaaGreatDoor
open Go.RowKit BlockMath TextNat JournalMath

theorem numF_mono : ∀ (f a b : Nat), a ≤ b → (WireMath.numF f a).length ≤ (WireMath.numF f b).length
  | 0, _, _, _ => Nat.le_refl _
  | f + 1, a, b, h => by
    unfold WireMath.numF
    by_cases h1 : a < 128
    · rw [if_pos h1]
      split
      · exact Nat.le_refl _
      · simp
    · rw [if_neg h1, if_neg (by omega), List.length_cons, List.length_cons]
      have := numF_mono f (a / 128) (b / 128) (Nat.div_le_div_right h)
      omega
theorem mark_mono (g : Nat) {a b : Nat} (h : a ≤ b) : (JournalMath.mark g a).length ≤ (JournalMath.mark g b).length := by
  have e : ∀ c, (JournalMath.mark g c).length = 21 + 2 * (payload ⟨4, g, c, []⟩).length := fun c => FrameMath.framed_len _
  rw [e, e]
  unfold payload
  simp only [List.length_append]
  have := numF_mono 8 a b h
  unfold WireMath.num
  omega
theorem jrot_rest (d : Dk) (n : Int) (c : Nat) : (rotD n c d).off = d.off ∧ (rotD n c d).late = d.late := by
  unfold rotD
  split <;> exact ⟨rfl, rfl⟩
/-- Where the law stands. -/
structure Here (D : Dev) (J : Jrn) (B : Nat) (w : World) (p ba bb : Nat) : Prop where
  is : ∃ j S hv, Trio D J w p ba bb S j ∧ (∀ k, S k → B ≤ k) ∧ Live j hv ∧ Marked j ∧ j.a.fuse = -1 ∧ j.b.fuse = -1 ∧ j.now = decide (j.gen % 2 = 1)
/-- The document's Seal of a Mark, as long as it is. -/
def RefSealOk : Prop := ∀ (g pl : Nat) (w : World), g ≤ big → pl ≤ big → Calls Tryz.prog 18 #[.agg #[.int .i64 4, .int .i64 (g : Int), .int .i64 (pl : Int), .string ⟨#[]⟩]] w fun e w' => (∃ s, e = .returned (.string s) ∧ s.size = (JournalMath.mark g pl).length) ∧ Below w.heap.size w w'
section
variable {D : Dev} {J : Jrn} {B p ba bb cap : Nat} {w w' : World} {pp : Option Addr} {xs : List ByteArray}
theorem Here.below (h : Here D J B w p ba bb) (hb : Below w.heap.size w w') : Here D J B w' p ba bb := by
  obtain ⟨j, S, hv, h1, h2⟩ := h.is
  exact ⟨j, S, hv, h1.stays hb.size fun k hk => hb.block k (h1.lt k hk), h2⟩
theorem put_here (hP : PutOk D J) (hT : Tables w) (hlt : 1 < B ∧ 2 < B) (h : Here D J B w p ba bb) (hB : B ≤ w.heap.size) (ht : TextsIn w pp xs) (hs : Small xs) (hc : xs.length ≤ cap) (hn : ∀ a, pp = some a → 0 < xs.length → a.block < B) :
    Calls Tryz.prog 11 #[ptr p, .slice pp xs.length cap] w fun e w' => (∃ x, e = .returned x) ∧ Here D J B w' p ba bb ∧ Below B w w' := by
  obtain ⟨j, S, hv, h1, h2, h3, h4, h5, h6, h7⟩ := h.is
  refine (hP p ba bb S j pp cap xs w h1 hT (far_of hlt h2) ht hs hc fun a ha h0 hS => by have := hn a ha h0; have := h2 _ hS; omega).mono ?_
  rintro e w' ⟨⟨x, rfl, hx⟩, hd⟩
  obtain ⟨hj, hb⟩ := hd.has hB h2
  obtain ⟨S', g1, g2⟩ := hj.own
  refine ⟨⟨x, rfl⟩, ⟨(JournalMath.put (xs.map nats) j).2, S', ?_⟩, hb⟩
  rcases put_step h3 (nats_oct xs) with ⟨e0, q1, q2, q3, q4, q5⟩ | ⟨e0, q1, _⟩ | ⟨e0, q1, q2, q3, q4, q5⟩ | ⟨_, _, q2, _⟩
  · exact ⟨_, g1, g2, q1, q5 h4, q2.fa h5, q2.fb h6, by rw [q3, q4, h7]⟩
  · rw [q1] at g1 ⊢
    exact ⟨hv, g1, g2, h3, h4, h5, h6, h7⟩
  · obtain ⟨ps, m1, m2⟩ := h4
    exact ⟨_, g1, g2, q1, ⟨ps, by rw [q3]; exact (q5 _ m1).1, by rw [q3]; exact m2⟩, q2.fa h5, q2.fb h6, by rw [q3, q4, h7]⟩
  · exfalso
    apply q2
    unfold Jn.cur
    split
    · exact h6
    · exact h5
theorem start_here (hP : StartOk D J) (hT : Tables w) (hlt : 1 < B ∧ 2 < B) (h : Here D J B w p ba bb) (hB : B ≤ w.heap.size) (ht : TextsIn w pp xs) (hs : Small xs) (hc : xs.length ≤ cap) (hn : ∀ a, pp = some a → 0 < xs.length → a.block < B) :
    Calls Tryz.prog 12 #[ptr p, .slice pp xs.length cap] w fun e w' => (∃ x, e = .returned x) ∧ Here D J B w' p ba bb ∧ Below B w w' := by
  obtain ⟨j, S, hv, h1, h2, h3, h4, h5, h6, h7⟩ := h.is
  refine (hP p ba bb S j pp cap xs w h1 hT (far_of hlt h2) ht hs hc fun a ha h0 hS => by have := hn a ha h0; have := h2 _ hS; omega).mono ?_
  rintro e w' ⟨⟨x, rfl, hx⟩, hd⟩
  obtain ⟨hj, hb⟩ := hd.has hB h2
  obtain ⟨S', g1, g2⟩ := hj.own
  refine ⟨⟨x, rfl⟩, ⟨(JournalMath.start (xs.map nats) j).2, S', ?_⟩, hb⟩
  rcases start_step h3 (nats_oct xs) (by rw [List.length_map]; have := hs.few; omega) with ⟨e0, q1, q2, q3, q4, q5⟩ | ⟨e0, q1, _⟩ | ⟨e0, q1, q2, q3, q4, q5, _⟩ | ⟨_, _, q2, _⟩
  · refine ⟨_, g1, g2, q1, q5, q2.fa h5, q2.fb h6, ?_⟩
    rw [q3, q4, h7, ← decide_not]
    exact decide_eq_decide.2 (by omega)
  · rw [q1] at g1 ⊢
    exact ⟨hv, g1, g2, h3, h4, h5, h6, h7⟩
  · obtain ⟨ps, m1, m2⟩ := h4
    exact ⟨_, g1, g2, q1, ⟨ps, by rw [q3, q5]; exact m1, by rw [q3]; exact m2⟩, q2.fa h5, q2.fb h6, by rw [q3, q4, h7]⟩
  · exfalso
    apply q2
    unfold Jn.spare
    split
    · exact h5
    · exact h6
variable {S : Nat → Prop} {j : Jn}
theorem Trio.cur (h : Trio D J w p ba bb S j) : ∃ Sc, D.at_ w (if j.now then bb else ba) Sc j.cur ∧ ∀ w' d', Ok d' → Does D w (if j.now then bb else ba) Sc d' w' → DoesJ D J w p ba bb S (j.setCur d') w' := by
  unfold Jn.cur Jn.setCur
  cases hn : j.now with
  | false =>
    obtain ⟨Sa, h1, h2⟩ := h.first
    refine ⟨Sa, h1, fun w' d' ok hd => ?_⟩
    have := h2 w' d' ok hd
    rw [hn] at this
    exact this
  | true =>
    obtain ⟨Sa, h1, h2⟩ := h.second
    refine ⟨Sa, h1, fun w' d' ok hd => ?_⟩
    have := h2 w' d' ok hd
    rw [hn] at this
    exact this
theorem Trio.okc (h : Trio D J w p ba bb S j) : Ok j.cur := by
  unfold Jn.cur
  split
  · exact h.okb
  · exact h.oka
theorem len_cur (hL : LenOk D) (h : Trio D J w p ba bb S j) : Calls Tryz.prog 19 #[ptr (if j.now then bb else ba)] w fun e w' => e = .returned (.int .i64 (size j.cur)) ∧ Below w.heap.size w w' := by
  obtain ⟨Sc, h1, _⟩ := h.cur
  exact hL _ Sc _ w h1 h.okc
theorem rot_cur (hR : RotOk D) (h : Trio D J w p ba bb S j) (n : Int) (c : Nat) (hn : I64 n) (hc : c < 256) : Calls Tryz.prog 21 #[ptr (if j.now then bb else ba), .int .i64 n, .int .u8 (c : Int)] w fun e w' => e = .returned (.bool (rotB n c j.cur)) ∧ DoesJ D J w p ba bb S (j.setCur (rotD n c j.cur)) w' := by
  obtain ⟨Sc, h1, h2⟩ := h.cur
  refine (hR _ Sc _ n c w h1 h.okc hn hc).mono ?_
  rintro e w' ⟨rfl, hd⟩
  exact ⟨rfl, h2 w' _ (h.okc.rot n c) hd⟩
end
set_option maxRecDepth 100000 in
set_option maxHeartbeats 8000000 in
theorem turned_true {D : Dev} {J : Jrn} (hW : Owns D) (hN : NewOk D) (hC : CrashOk D) (hO : OpenedOk D J) (hP : PutOk D J) (hG : GenOk D J) (hS : StartOk D J) (hZ : SizeOk D J) (hL : LenOk D) (hT : RotOk D) (hE : RefSealOk)
    (pp : Option Addr) (cap : Nat) (xs : List Op) (n : Int) (c : Nat) (w : World) (hTb : Tables w) (hn : I64 n) (hc8 : c < 256) (h : OpsIn w pp xs) (hc : ∀ x ∈ xs, x.Can) (hl : xs.length ≤ 9223372036854775807) :
    Calls Tryz.prog 4 #[.slice pp xs.length cap, .int .i64 n, .int .u8 (c : Int)] w fun e w' => e = .returned (.bool true) ∧ Below w.heap.size w w' := by
  have HA := Lib.hid (awake_true hW hN hC hO hP hG w hTb)
  have HTB := Lib.hid hTb
  have HGr := Lib.hid (fun w1 h1 => great_ok pp cap xs w1 h1 hc hl)
  have HI := Lib.hid h
  have HCan := Lib.hid hc
  have H2 := Lib.hid (fun w => two_ok hW hN 1048576 w (by decide) (by decide))
  have HON := Lib.hid (open_new (R := 1048576) (by decide) (by decide))
  replace hO := Lib.hid hO
  replace hP := Lib.hid hP
  replace hG := Lib.hid hG
  replace hS := Lib.hid hS
  replace hZ := Lib.hid hZ
  replace hL := Lib.hid hL
  replace hT := Lib.hid hT
  replace hE := Lib.hid hE
  clear hN hW h hc hl
  go_enter Tryz.func4, Tryz.ntmps4
  go_wp2_with fail
  refine HA.out.mono ?_
  rintro e w0 ⟨rfl, hb⟩
  have HB := Lib.hid hb
  clear hb HA
  go_wp2_with fail
  refine (HGr.out w0 (HI.out.grown HB.out)).mono ?_
  rintro e w1 ⟨⟨g, rfl, hg⟩, hb⟩
  replace HB := Lib.hid (HB.out.trans (hb.mono HB.out.size))
  clear hb HGr
  cases g with
  | true =>
    clear hg
    go_wp2
    go_ret
    exact ⟨rfl, HB.out⟩
  | false =>
    obtain ⟨hg1, hg2⟩ := hg rfl
    have HSM := Lib.hid hg2
    clear hg hg2
    by_cases hc0 : c = 0
    · subst hc0
      go_wp2
      go_ret
      exact ⟨rfl, HB.out⟩
    have t0 : ((c : Int) == 0) = false := by rw [beq_eq_false_iff_ne]; omega
    go_wp2_with fail
    refine (H2.out w1).mono ?_
    rintro e w2 ⟨⟨ba, bb, rfl, hd⟩, hb⟩
    have HD := Lib.hid hd
    have HB1 := Lib.hid hb
    have HBs := Lib.hid HB.out.size
    clear hd hb H2
    go_wp2_with fail
    refine (HD.out.opens hO.out ((HTB.out.grown HB.out).grown HB1.out) (HTB.out.grown HB.out).lt HB1.out.size).mono ?_
    rintro e w3 ⟨ho, hb⟩
    have HB2 := Lib.hid (HB1.out.trans hb)
    replace HB := Lib.hid (HB.out.trans (HB2.out.mono HB.out.size))
    clear hb HB1 HD
    rcases HON.out with ⟨j, o1, o2, o3, o4, o5, o6, o7, o8, o9, -⟩ | ⟨_, o1⟩
    case inr => exact absurd o1 (by decide)
    rw [o1, if_pos rfl] at ho
    obtain ⟨p, v, S, rfl, hT0, hSB, -, -⟩ := ho
    have HST := Lib.hid (show Here D J w.heap.size w3 p ba bb from ⟨j, S, [], hT0, fun k hk => Nat.le_trans HBs.out (hSB k hk), o2, o9, o5, o6, by rw [o4, o3]; rfl⟩)
    clear hT0 hSB HON o1 o2 o3 o4 o5 o6 o7 o8 o9 HB2 HBs
    go_wp2_with fail
    go_loopg [42] xs.length (fun gh s42 wx => ∃ i : Nat, i + gh = xs.length ∧ s42 = .int .i64 (i : Int) ∧ Here D J w.heap.size wx p ba bb ∧ Below w.heap.size w wx)
    case atStart => exact ⟨0, by omega, by go_num, HST.out, HB.out⟩
    case round =>
      obtain ⟨i, hi, rfl, hst, hb⟩ := hrel
      have HBw := Lib.hid hb
      have HStand := Lib.hid hst
      clear HB HST hst hb
      by_cases hin : i < xs.length
      case neg =>
        have u1 : decide ((i : Int) < (xs.length : Int)) = false := decide_eq_false (by omega)
        have u1' : decide (i < xs.length) = false := decide_eq_false hin
        clear hin
        obtain ⟨j, S, hv, t1, t2, t3, ⟨ps, m1, m2⟩, t5, t6, t7⟩ := HStand.out.is
        obtain ⟨L, hLL⟩ : ∃ L, L = (enc (ps ++ [⟨4, j.gen, (enc ps).length, []⟩])).length := ⟨_, rfl⟩
        have HSz := Lib.hid (show size j.cur = (L : Int) by rw [size_on m1.off, m1.size, hLL])
        have hL20 : L ≤ 1048576 := by rw [hLL]; exact JournalMath.Ok.len t1.okc m1
        have hLp : L = (enc ps).length + (JournalMath.mark j.gen (enc ps).length).length := by rw [hLL, ← enc_mark, List.length_append]
        obtain ⟨G1, G2⟩ := m2.begins
        have HSe := Lib.hid (fun w => hE.out j.gen L w G2 (by unfold big; omega))
        obtain ⟨mk, hmk⟩ : ∃ mk, mk = (JournalMath.mark j.gen L).length := ⟨_, rfl⟩
        rw [← hmk] at HSe
        have hmono : (JournalMath.mark j.gen (enc ps).length).length ≤ mk := by rw [hmk]; exact mark_mono _ (by omega)
        have hmk93 : mk ≤ 93 := by rw [hmk]; exact mark_len _ _
        have HLE := Lib.hid (show (L : Int) - (mk : Int) ≤ ((enc ps).length : Int) by omega)
        have T0 := Lib.hid t1
        have HSB := Lib.hid t2
        have HLv := Lib.hid t3
        have HM1 := Lib.hid m1
        have HM2 := Lib.hid m2
        have HNow := Lib.hid t7
        have B0 := HBw
        have HN64 := Lib.hid hn
        clear t1 t2 t3 m1 m2 t5 t6 t7 HStand hLp hmk hmono hLL HBw
        obtain ⟨gg, hgg⟩ : ∃ gg, gg = j.gen := ⟨_, rfl⟩
        have HGG := Lib.hid hgg
        have hgb : gg ≤ 1099511627776 := by rw [hgg]; unfold big at G2; exact G2
        have hG2 := Lib.hid (fun w1 h1 => by have := hG.out p ba bb S j w1 h1; rw [← hgg] at this; exact this)
        rw [← hgg] at HSe
        clear hgg G1 G2
        rcases Nat.mod_two_eq_zero_or_one gg with hq | hq
        · have kq : (gg : Int).tmod 2 = 0 := by rw [show (gg : Int).tmod 2 = ((gg % 2 : Nat) : Int) from rfl, hq]; rfl
          have hnow : j.now = false := by rw [HNow.out, ← HGG.out, hq]; rfl
          have HLen := Lib.hid (fun w1 (h : Trio D J w1 p ba bb S j) => by have := len_cur hL.out h; rw [hnow, if_neg (by simp)] at this; exact this)
          have HRot := Lib.hid (fun w1 (h : Trio D J w1 p ba bb S j) => by have := rot_cur hT.out h n c HN64.out hc8; rw [hnow, if_neg (by simp)] at this; exact this)
          clear hq hnow
          go_wp2_with fail
          refine (hG2.out wr T0.out).mono ?_
          rintro e w1 ⟨rfl, hb⟩
          have T1 := Lib.hid (T0.out.stays hb.size fun k hk => hb.block k (T0.out.lt k hk))
          have B1 := Lib.hid (B0.out.trans (hb.mono B0.out.size))
          clear hb T0 B0
          go_wp2_with fail
          refine (hG2.out w1 T1.out).mono ?_
          rintro e w2 ⟨rfl, hb⟩
          have T2 := Lib.hid (T1.out.stays hb.size fun k hk => hb.block k (T1.out.lt k hk))
          have B2 := Lib.hid (B1.out.trans (hb.mono B1.out.size))
          clear hb T1 B1
          go_wp2_with fail
          refine (HLen.out w2 T2.out).mono ?_
          rintro e w3 ⟨rfl, hb⟩
          rw [HSz.out]
          have T3 := Lib.hid (T2.out.stays hb.size fun k hk => hb.block k (T2.out.lt k hk))
          have B3 := Lib.hid (B2.out.trans (hb.mono B2.out.size))
          clear hb T2 B2
          go_wp2_with fail
          refine (HSe.out _).mono ?_
          rintro e w4 ⟨⟨s4, rfl, hs4⟩, hb⟩
          have hs4i : (s4.size : Int) = (mk : Int) := by rw [hs4]
          have T4 := Lib.hid (T3.out.stays hb.size fun k hk => hb.block k (T3.out.lt k hk))
          have B4 := Lib.hid (B3.out.trans (hb.mono B3.out.size))
          clear hb hs4 T3 B3
          go_wp2_with fail
          refine (HLen.out w4 T4.out).mono ?_
          rintro e w5 ⟨rfl, hb⟩
          rw [HSz.out]
          have T5 := Lib.hid (T4.out.stays hb.size fun k hk => hb.block k (T4.out.lt k hk))
          have B5 := Lib.hid (B4.out.trans (hb.mono B4.out.size))
          clear hb T4 B4
          go_wp2_with fail
          refine (hZ.out p ba bb S j w5 T5.out).mono ?_
          rintro e w6 ⟨rfl, hb⟩
          rw [HSz.out]
          have T6 := Lib.hid (T5.out.stays hb.size fun k hk => hb.block k (T5.out.lt k hk))
          have B6 := Lib.hid (B5.out.trans (hb.mono B5.out.size))
          clear hb T5 B5
          by_cases hn0 : n < 0
          · have v0 : decide (n < 0) = true := decide_eq_true hn0
            go_wp2_with fail
            refine (HLen.out w6 T6.out).mono ?_
            rintro e w7 ⟨rfl, hb⟩
            rw [HSz.out]
            have T7 := Lib.hid (T6.out.stays hb.size fun k hk => hb.block k (T6.out.lt k hk))
            have B7 := Lib.hid (B6.out.trans (hb.mono B6.out.size))
            clear hb T6 B6
            go_wp2_with fail
            refine (hZ.out p ba bb S j w7 T7.out).mono ?_
            rintro e w8 ⟨rfl, hb⟩
            rw [HSz.out]
            have T8 := Lib.hid (T7.out.stays hb.size fun k hk => hb.block k (T7.out.lt k hk))
            have B8 := Lib.hid (B7.out.trans (hb.mono B7.out.size))
            clear hb T7 B7
            go_wp2
            go_ret
            exact ⟨by first | rfl | simp, B8.out⟩
          have v0 : decide (n < 0) = false := decide_eq_false hn0
          have k5 : IntKind.i64.wrap ((L : Int) - (mk : Int)) = (L : Int) - (mk : Int) := by rw [IntKind.wrap_i64]; omega
          go_wp2_with fail
          refine (HLen.out w6 T6.out).mono ?_
          rintro e w7 ⟨rfl, hb⟩
          rw [HSz.out]
          have T7 := Lib.hid (T6.out.stays hb.size fun k hk => hb.block k (T6.out.lt k hk))
          have B7 := Lib.hid (B6.out.trans (hb.mono B6.out.size))
          clear hb T6 B6
          by_cases hn1 : (L : Int) - (mk : Int) ≤ n
          · have v1 : decide ((L : Int) - (mk : Int) ≤ n) = true := decide_eq_true hn1
            go_wp2_with fail
            refine (HLen.out w7 T7.out).mono ?_
            rintro e w8 ⟨rfl, hb⟩
            rw [HSz.out]
            have T8 := Lib.hid (T7.out.stays hb.size fun k hk => hb.block k (T7.out.lt k hk))
            have B8 := Lib.hid (B7.out.trans (hb.mono B7.out.size))
            clear hb T7 B7
            go_wp2_with fail
            refine (hZ.out p ba bb S j w8 T8.out).mono ?_
            rintro e w9 ⟨rfl, hb⟩
            rw [HSz.out]
            have T9 := Lib.hid (T8.out.stays hb.size fun k hk => hb.block k (T8.out.lt k hk))
            have B9 := Lib.hid (B8.out.trans (hb.mono B8.out.size))
            clear hb T8 B8
            go_wp2
            go_ret
            exact ⟨by first | rfl | simp, B9.out⟩
          have v1 : decide ((L : Int) - (mk : Int) ≤ n) = false := decide_eq_false hn1
          obtain ⟨i2, rfl⟩ : ∃ i2 : Nat, n = (i2 : Int) := ⟨n.toNat, by omega⟩
          have hi2 : i2 < (enc ps).length := by have := HLE.out; omega
          obtain ⟨y, hy⟩ : ∃ y, (enc ps)[i2]? = some y := ⟨_, List.getElem?_eq_getElem hi2⟩
          have hy2 : (nats j.cur.done)[i2]? = some y := by rw [HM1.out.done, enc_append, List.getElem?_append_left hi2]; exact hy
          have hy256 : y < 256 := nats_lt _ y (List.mem_of_getElem? hy2)
          have hil : i2 < j.cur.done.size := by rw [← nats_len]; exact (List.getElem?_eq_some_iff.1 hy2).1
          have hrb : rotB (i2 : Int) c j.cur = true := by
            unfold rotB
            rw [HM1.out.off, decide_eq_true (show (0 : Int) ≤ (i2 : Int) by omega), decide_eq_true (show (i2 : Int) < (j.cur.done.size : Int) by omega), decide_eq_false hc0]
            rfl
          have hd : Still (rotD (i2 : Int) c j.cur) ((enc (ps ++ [⟨4, j.gen, (enc ps).length, []⟩])).set i2 ((y ^^^ c) % 256)) := by
            have hro := jrot_rest j.cur (i2 : Int) c
            refine ⟨by rw [hro.1]; exact HM1.out.off, by rw [hro.2]; exact HM1.out.late, ?_⟩
            rw [rot_done hrb hy2, HM1.out.done]
          have HT6 := Lib.hid (open_turned HLv.out HM1.out HM2.out hy (xor_ne hy256 hc8 hc0) (Nat.mod_lt _ (by decide)) hd)
          have HRB := Lib.hid hrb
          clear hy hy2 hy256 hil hrb hd hi2 hn0 hn1
          go_wp2_with fail
          refine (HRot.out w7 T7.out).mono ?_
          rintro e w8 ⟨rfl, hd⟩
          rw [HRB.out]
          obtain ⟨hj, hb⟩ := hd.has (B := w.heap.size) B7.out.size HSB.out
          have HD8 := Lib.hid hj.duo
          have B8 := Lib.hid (B7.out.trans hb)
          clear hd hj hb
          go_wp2_with fail
          refine (HD8.out.opens hO.out (HTB.out.grown B8.out) HTB.out.lt B8.out.size).mono ?_
          rintro e w9 ⟨ho, hb⟩
          have B9 := Lib.hid (B8.out.trans hb)
          rw [if_neg (by rw [HT6.out.1]; decide)] at ho
          obtain ⟨pp9, cap9, x9, rfl, hx9⟩ := ho
          rw [HT6.out.1] at hx9
          have HX9 := Lib.hid hx9
          clear hb hx9
          go_wp2_with fail
          refine (is_err HX9.out 6).mono ?_
          rintro e w10 ⟨rfl, rfl⟩
          go_wp2
          go_ret
          exact ⟨by first | rfl | simp, B9.out⟩
        · have kq : (gg : Int).tmod 2 = 1 := by rw [show (gg : Int).tmod 2 = ((gg % 2 : Nat) : Int) from rfl, hq]; rfl
          have hnow : j.now = true := by rw [HNow.out, ← HGG.out, hq]; rfl
          have HLen := Lib.hid (fun w1 (h : Trio D J w1 p ba bb S j) => by have := len_cur hL.out h; rw [hnow, if_pos rfl] at this; exact this)
          have HRot := Lib.hid (fun w1 (h : Trio D J w1 p ba bb S j) => by have := rot_cur hT.out h n c HN64.out hc8; rw [hnow, if_pos rfl] at this; exact this)
          clear hq hnow
          go_wp2_with fail
          refine (hG2.out wr T0.out).mono ?_
          rintro e w1 ⟨rfl, hb⟩
          have T1 := Lib.hid (T0.out.stays hb.size fun k hk => hb.block k (T0.out.lt k hk))
          have B1 := Lib.hid (B0.out.trans (hb.mono B0.out.size))
          clear hb T0 B0
          go_wp2_with fail
          refine (hG2.out w1 T1.out).mono ?_
          rintro e w2 ⟨rfl, hb⟩
          have T2 := Lib.hid (T1.out.stays hb.size fun k hk => hb.block k (T1.out.lt k hk))
          have B2 := Lib.hid (B1.out.trans (hb.mono B1.out.size))
          clear hb T1 B1
          go_wp2_with fail
          refine (HLen.out w2 T2.out).mono ?_
          rintro e w3 ⟨rfl, hb⟩
          rw [HSz.out]
          have T3 := Lib.hid (T2.out.stays hb.size fun k hk => hb.block k (T2.out.lt k hk))
          have B3 := Lib.hid (B2.out.trans (hb.mono B2.out.size))
          clear hb T2 B2
          go_wp2_with fail
          refine (HSe.out _).mono ?_
          rintro e w4 ⟨⟨s4, rfl, hs4⟩, hb⟩
          have hs4i : (s4.size : Int) = (mk : Int) := by rw [hs4]
          have T4 := Lib.hid (T3.out.stays hb.size fun k hk => hb.block k (T3.out.lt k hk))
          have B4 := Lib.hid (B3.out.trans (hb.mono B3.out.size))
          clear hb hs4 T3 B3
          go_wp2_with fail
          refine (HLen.out w4 T4.out).mono ?_
          rintro e w5 ⟨rfl, hb⟩
          rw [HSz.out]
          have T5 := Lib.hid (T4.out.stays hb.size fun k hk => hb.block k (T4.out.lt k hk))
          have B5 := Lib.hid (B4.out.trans (hb.mono B4.out.size))
          clear hb T4 B4
          go_wp2_with fail
          refine (hZ.out p ba bb S j w5 T5.out).mono ?_
          rintro e w6 ⟨rfl, hb⟩
          rw [HSz.out]
          have T6 := Lib.hid (T5.out.stays hb.size fun k hk => hb.block k (T5.out.lt k hk))
          have B6 := Lib.hid (B5.out.trans (hb.mono B5.out.size))
          clear hb T5 B5
          by_cases hn0 : n < 0
          · have v0 : decide (n < 0) = true := decide_eq_true hn0
            go_wp2_with fail
            refine (HLen.out w6 T6.out).mono ?_
            rintro e w7 ⟨rfl, hb⟩
            rw [HSz.out]
            have T7 := Lib.hid (T6.out.stays hb.size fun k hk => hb.block k (T6.out.lt k hk))
            have B7 := Lib.hid (B6.out.trans (hb.mono B6.out.size))
            clear hb T6 B6
            go_wp2_with fail
            refine (hZ.out p ba bb S j w7 T7.out).mono ?_
            rintro e w8 ⟨rfl, hb⟩
            rw [HSz.out]
            have T8 := Lib.hid (T7.out.stays hb.size fun k hk => hb.block k (T7.out.lt k hk))
            have B8 := Lib.hid (B7.out.trans (hb.mono B7.out.size))
            clear hb T7 B7
            go_wp2
            go_ret
            exact ⟨by first | rfl | simp, B8.out⟩
          have v0 : decide (n < 0) = false := decide_eq_false hn0
          have k5 : IntKind.i64.wrap ((L : Int) - (mk : Int)) = (L : Int) - (mk : Int) := by rw [IntKind.wrap_i64]; omega
          go_wp2_with fail
          refine (HLen.out w6 T6.out).mono ?_
          rintro e w7 ⟨rfl, hb⟩
          rw [HSz.out]
          have T7 := Lib.hid (T6.out.stays hb.size fun k hk => hb.block k (T6.out.lt k hk))
          have B7 := Lib.hid (B6.out.trans (hb.mono B6.out.size))
          clear hb T6 B6
          by_cases hn1 : (L : Int) - (mk : Int) ≤ n
          · have v1 : decide ((L : Int) - (mk : Int) ≤ n) = true := decide_eq_true hn1
            go_wp2_with fail
            refine (HLen.out w7 T7.out).mono ?_
            rintro e w8 ⟨rfl, hb⟩
            rw [HSz.out]
            have T8 := Lib.hid (T7.out.stays hb.size fun k hk => hb.block k (T7.out.lt k hk))
            have B8 := Lib.hid (B7.out.trans (hb.mono B7.out.size))
            clear hb T7 B7
            go_wp2_with fail
            refine (hZ.out p ba bb S j w8 T8.out).mono ?_
            rintro e w9 ⟨rfl, hb⟩
            rw [HSz.out]
            have T9 := Lib.hid (T8.out.stays hb.size fun k hk => hb.block k (T8.out.lt k hk))
            have B9 := Lib.hid (B8.out.trans (hb.mono B8.out.size))
            clear hb T8 B8
            go_wp2
            go_ret
            exact ⟨by first | rfl | simp, B9.out⟩
          have v1 : decide ((L : Int) - (mk : Int) ≤ n) = false := decide_eq_false hn1
          obtain ⟨i2, rfl⟩ : ∃ i2 : Nat, n = (i2 : Int) := ⟨n.toNat, by omega⟩
          have hi2 : i2 < (enc ps).length := by have := HLE.out; omega
          obtain ⟨y, hy⟩ : ∃ y, (enc ps)[i2]? = some y := ⟨_, List.getElem?_eq_getElem hi2⟩
          have hy2 : (nats j.cur.done)[i2]? = some y := by rw [HM1.out.done, enc_append, List.getElem?_append_left hi2]; exact hy
          have hy256 : y < 256 := nats_lt _ y (List.mem_of_getElem? hy2)
          have hil : i2 < j.cur.done.size := by rw [← nats_len]; exact (List.getElem?_eq_some_iff.1 hy2).1
          have hrb : rotB (i2 : Int) c j.cur = true := by
            unfold rotB
            rw [HM1.out.off, decide_eq_true (show (0 : Int) ≤ (i2 : Int) by omega), decide_eq_true (show (i2 : Int) < (j.cur.done.size : Int) by omega), decide_eq_false hc0]
            rfl
          have hd : Still (rotD (i2 : Int) c j.cur) ((enc (ps ++ [⟨4, j.gen, (enc ps).length, []⟩])).set i2 ((y ^^^ c) % 256)) := by
            have hro := jrot_rest j.cur (i2 : Int) c
            refine ⟨by rw [hro.1]; exact HM1.out.off, by rw [hro.2]; exact HM1.out.late, ?_⟩
            rw [rot_done hrb hy2, HM1.out.done]
          have HT6 := Lib.hid (open_turned HLv.out HM1.out HM2.out hy (xor_ne hy256 hc8 hc0) (Nat.mod_lt _ (by decide)) hd)
          have HRB := Lib.hid hrb
          clear hy hy2 hy256 hil hrb hd hi2 hn0 hn1
          go_wp2_with fail
          refine (HRot.out w7 T7.out).mono ?_
          rintro e w8 ⟨rfl, hd⟩
          rw [HRB.out]
          obtain ⟨hj, hb⟩ := hd.has (B := w.heap.size) B7.out.size HSB.out
          have HD8 := Lib.hid hj.duo
          have B8 := Lib.hid (B7.out.trans hb)
          clear hd hj hb
          go_wp2_with fail
          refine (HD8.out.opens hO.out (HTB.out.grown B8.out) HTB.out.lt B8.out.size).mono ?_
          rintro e w9 ⟨ho, hb⟩
          have B9 := Lib.hid (B8.out.trans hb)
          rw [if_neg (by rw [HT6.out.1]; decide)] at ho
          obtain ⟨pp9, cap9, x9, rfl, hx9⟩ := ho
          rw [HT6.out.1] at hx9
          have HX9 := Lib.hid hx9
          clear hb hx9
          go_wp2_with fail
          refine (is_err HX9.out 6).mono ?_
          rintro e w10 ⟨rfl, rfl⟩
          go_wp2
          go_ret
          exact ⟨by first | rfl | simp, B9.out⟩
      case pos =>
        have u1 : decide ((i : Int) < (xs.length : Int)) = true := decide_eq_true (by omega)
        have u1' : decide (i < xs.length) = true := decide_eq_true hin
        have k1 : IntKind.i64.wrap ((i : Int) + 1) = (i : Int) + 1 := by rw [IntKind.wrap_i64]; omega
        obtain ⟨x, hx⟩ : ∃ x, xs[i]? = some x := ⟨_, List.getElem?_eq_getElem hin⟩
        have hxm := List.mem_of_getElem? hx
        have HLB := Lib.hid (HI.out.low hx)
        obtain ⟨b, off, rfl, d0, d1, d2, d3, d4, d5, htx⟩ := (HI.out.grown HBw.out).six hx
        obtain ⟨kk, hkk⟩ : ∃ kk, kk = x.k := ⟨_, rfl⟩
        rw [← hkk] at d0
        clear hkk
        have HK := Lib.hid (HCan.out x hxm)
        have HX := Lib.hid (HSM.out x hxm)
        have hal : Below wr.heap.size wr (wr.alloc (.cells #[.int .i64 kk, .slice x.lp x.l.length x.lc, .bool x.dev, .int .i64 x.n, .int .i64 x.m, .string x.s] 41)) := (Below.refl _ _).alloc (Nat.le_refl _) _
        have HST1 := Lib.hid (HStand.out.below hal)
        have HB1 := Lib.hid (HBw.out.trans (hal.mono HBw.out.size))
        have HTX1 := Lib.hid (TextsIn.grown htx hal)
        have HOP1 := Lib.hid (show OpAt (wr.alloc (.cells #[.int .i64 kk, .slice x.lp x.l.length x.lc, .bool x.dev, .int .i64 x.n, .int .i64 x.m, .string x.s] 41)) wr.heap.size kk x from Lies.new wr [.int .i64 kk, .slice x.lp x.l.length x.lc, .bool x.dev, .int .i64 x.n, .int .i64 x.m, .string x.s] 41)
        clear hx hxm htx hal HStand HBw
        by_cases hk0 : kk = 0
        · subst hk0
          have e0 := HOP1.out.cell (i := 0) rfl
          have e1 := HOP1.out.cell (i := 1) rfl
          go_wp2_with fail
          refine (put_here hP.out (HTB.out.grown HB1.out) HTB.out.lt HST1.out HB1.out.size HTX1.out HX.out HK.out.cap fun a ha h0 => HLB.out a ha h0).mono ?_
          rintro e w6 ⟨⟨x1, rfl⟩, hh, hb⟩
          have HST6 := Lib.hid hh
          have HB6 := Lib.hid (HB1.out.trans hb)
          clear hh hb HST1 HB1 HTX1 HOP1 e0 e1
          go_wp2_with fail
          go_roundg (xs.length - (i + 1))
          case measure => omega
          case rel => exact ⟨i + 1, by omega, by go_num, HST6.out, HB6.out⟩
        · have v0 : (kk == 0) = false := by rw [beq_eq_false_iff_ne]; omega
          by_cases hk1 : kk = 1
          · subst hk1
            have e0 := HOP1.out.cell (i := 0) rfl
            have e1 := HOP1.out.cell (i := 1) rfl
            go_wp2_with fail
            refine (start_here hS.out (HTB.out.grown HB1.out) HTB.out.lt HST1.out HB1.out.size HTX1.out HX.out HK.out.cap fun a ha h0 => HLB.out a ha h0).mono ?_
            rintro e w6 ⟨⟨x1, rfl⟩, hh, hb⟩
            have HST6 := Lib.hid hh
            have HB6 := Lib.hid (HB1.out.trans hb)
            clear hh hb HST1 HB1 HTX1 HOP1 e0 e1
            go_wp2_with fail
            go_roundg (xs.length - (i + 1))
            case measure => omega
            case rel => exact ⟨i + 1, by omega, by go_num, HST6.out, HB6.out⟩
          · have v1 : (kk == 1) = false := by rw [beq_eq_false_iff_ne]; omega
            go_wp2_with fail
            go_roundg (xs.length - (i + 1))
            case measure => omega
            case rel => exact ⟨i + 1, by omega, by go_num, HST1.out, HB1.out⟩
end Go.Proofs.YtajkldmpllphjaaGreatDoor
