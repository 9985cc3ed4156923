/-
  Texts of one claim, merged.
  WireSame: The contracts of the document's own SameVec, SameWrite, SameClaims, RightWrite, RightClaims of chapter 5. The conditions: the vectors' cells.
  WireSameC: The contract of the document's own SameClaims of chapter 5. The conditions: the vectors' cells.
  TokenLives: TokenLives' contract. The conditions: the program's contracts; mac's table; what came in lies in memory.
-/
import Derived.Test.YtajhegjemhegiaaDoorPart18
import Derived.Test.YtajhegjemhegiaaDoorPart29
import Derived.Test.YtajhegjemhegiaaDoorPart19
import Derived.Test.YtajhegjemhegiaaDoorTokenOnly
import Derived.Test.YtajhegjemhegiaaDoorPart27
namespace Go.Proofs.YtajhegjemhegiaaDoor
open Go.RowKit TextNat

/-- Alike, as the document's own answer tells it. -/
def sameW (x y : WriteV) : Bool := decide (x.region = y.region ∧ x.number = y.number ∧ x.time = y.time ∧ x.sreg = y.sreg ∧ x.dl = y.dl ∧ x.session.toList = y.session.toList ∧ x.key.toList = y.key.toList ∧ x.value.toList = y.value.toList ∧ x.gone = y.gone ∧ x.life = y.life)
end Go.Proofs.YtajhegjemhegiaaDoor
namespace Go.Proofs.YtajhegjemhegiaaDoor
open Go.RowKit TextNat

/-- Alike, as the document's own answer tells it. -/
def sameC (x y : ClaimsV) : Bool := decide (x.session.toList = y.session.toList ∧ x.user.toList = y.user.toList ∧ x.epoch = y.epoch ∧ x.issue = y.issue ∧ x.key = y.key ∧ x.cl = y.cl)
set_option maxRecDepth 100000 in
set_option maxHeartbeats 4000000 in
theorem sameClaims_ok (x y : ClaimsV) (w : World) (hx : Ints w x.cp x.cl) (hy : Ints w y.cp y.cl) (hl : x.cl.length ≤ 9223372036854775807) (hl2 : y.cl.length ≤ 9223372036854775807) :
    Calls Tryd.prog 14 #[x.val, y.val] w fun e w' => e = .returned (.bool (sameC x y)) ∧ Below w.heap.size w w' := by
  have HV := Lib.hid (fun w1 (h : Below w.heap.size w w1) => sameVec_ok x.cp y.cp x.cc y.cc x.cl y.cl w1 (hx.grown h) (hy.grown h) hl hl2)
  obtain ⟨se1, us1, e1, i1, k1, cp1, cl1, cc1⟩ := x
  obtain ⟨se2, us2, e2, i2, k2, cp2, cl2, cc2⟩ := y
  simp only [ClaimsV.val] at *
  clear hx hy hl hl2
  by_cases hd : cl1 = cl2
  · have hd' : (cl1 == cl2) = true := by rw [beq_iff_eq]; exact hd
    rw [hd'] at HV
    clear hd'
    have HD := Lib.hid hd
    clear hd
    go_enter Tryd.func14, Tryd.ntmps14
    go_wp2_with (go_at_call 28; refine (HV.out _ (((Below.refl _ _).alloc (Nat.le_refl _) _).alloc (by simp) _)).mono ?_; rintro e w3 ⟨rfl, nn, rfl⟩)
    all_goals
      have hD := HD.out
      clear HD HV
      go_ret
      refine ⟨?_, ?_⟩
      · simp [sameC, *]
      · first
          | exact ((Below.refl _ _).alloc (Nat.le_refl _) _).alloc (by simp) _
          | exact Below.trans (((Below.refl _ _).alloc (Nat.le_refl _) _).alloc (by simp) _) (below_drew_n _ _ _)
  · have hd' : (cl1 == cl2) = false := by rw [beq_eq_false_iff_ne]; exact hd
    rw [hd'] at HV
    clear hd'
    have HD := Lib.hid hd
    clear hd
    go_enter Tryd.func14, Tryd.ntmps14
    go_wp2_with (go_at_call 28; refine (HV.out _ (((Below.refl _ _).alloc (Nat.le_refl _) _).alloc (by simp) _)).mono ?_; rintro e w3 ⟨rfl, nn, rfl⟩)
    all_goals
      have hD := HD.out
      clear HD HV
      go_ret
      refine ⟨?_, ?_⟩
      · simp [sameC, *]
      · first
          | exact ((Below.refl _ _).alloc (Nat.le_refl _) _).alloc (by simp) _
          | exact Below.trans (((Below.refl _ _).alloc (Nat.le_refl _) _).alloc (by simp) _) (below_drew_n _ _ _)
end Go.Proofs.YtajhegjemhegiaaDoor
namespace Go.Proofs.YtajhegjemhegiaaDoor
open Go.RowKit TextNat TokenMath

theorem below_at7 {B g : Nat} {a w : World} (h : Below B a w) (hg : B ≤ g) (j : Nat) (v : Value) : Below B a (w.setCell ⟨g, j, none⟩ v) :=
  ⟨h.os, h.tape, h.output, by have := h.size; simpa [World.setCell] using this, fun k hk => (Below.heap_setCell _ _ _ _ (by show k ≠ g; omega)).trans (h.block k hk)⟩
theorem sameC_t {x : ClaimsV} (h : RightIsC x) (dp : Option Addr) (dc : Nat) : sameC x (readCV x.t dp dc) = true := by
  obtain ⟨h1, h2, h3, h4, h5, h6⟩ := h
  have hb := map_back (trimmed_pos h6)
  unfold sameC readCV ClaimsV.t
  simp only [txt_nats, decide_eq_true_eq]
  exact ⟨trivial, trivial, by omega, by omega, by omega, hb.symm⟩
theorem alive_made {a n : Int} (h0 : 0 ≤ a) (h1 : a ≤ 65535) (h : n ≤ a + 2) : aliveN n a.toNat = true := by
  unfold aliveN aliveB
  simp only [Bool.and_eq_true, decide_eq_true_eq]
  omega
theorem alive_over {a n : Int} (h0 : 0 ≤ a) (h : a + 2 < n) : aliveN n a.toNat = false := by
  unfold aliveN aliveB
  simp only [Bool.and_eq_false_iff, decide_eq_false_iff_not]
  omega
theorem right_m {a : Int} (h0 : 0 ≤ a) (h1 : a ≤ 65535) : rightB ⟨#[109]⟩ a = true := by
  unfold rightB
  simp only [Bool.and_eq_true, decide_eq_true_eq]
  exact ⟨⟨⟨by decide, by decide⟩, by omega⟩, by omega⟩
set_option maxRecDepth 100000 in
set_option maxHeartbeats 8000000 in
theorem lives_true {R : Rng} (hN : RNewOk R) (hM : MintOk R) (hQ : ReadTOk R) (x : ClaimsV) (a n : Int) (w : World) (hP : Parts w) (hx : Ints w x.cp x.cl) (hf : x.few) (ha : 0 ≤ a ∧ a ≤ 65535) (hn : 0 ≤ n ∧ n ≤ 65535) :
    Calls Tryd.prog 4 #[x.val, .int .u16 a, .int .u16 n] w fun e w' => e = .returned (.bool true) ∧ Below w.heap.size w w' := by
  have HG := Lib.hid (great_ok x)
  obtain ⟨se, us, ep, is, ky, cp, cl, cc⟩ := x
  simp only [ClaimsV.val] at *
  have HN := Lib.hid hN
  have HM := Lib.hid hM
  have HQ := Lib.hid hQ
  have HP := Lib.hid hP
  have HF := Lib.hid hf
  have HX := Lib.hid hx
  have HX0 := Lib.hid hx
  have HAb := Lib.hid ha
  have HNb := Lib.hid hn
  clear hN hM hQ hP hf hx
  go_enter Tryd.func4, Tryd.ntmps4
  go_wp2_with fail
  obtain ⟨W, hW⟩ : ∃ W, W = w.alloc (.cells #[.string se, .string us, .int .i64 ep, .int .i64 is, .int .i64 ky, .slice cp cl.length cc] 31) := ⟨_, rfl⟩
  rw [← hW]
  have hb : Below w.heap.size w W := by rw [hW]; exact (Below.refl _ _).alloc (Nat.le_refl _) _
  have HRow := Lib.hid (show Row W w.heap.size [.string se, .string us, .int .i64 ep, .int .i64 is, .int .i64 ky, .slice cp cl.length cc] 31 by rw [hW]; exact Row.new w _ _)
  replace HX := Lib.hid (HX.out.grown hb)
  have HB := Lib.hid hb
  clear hb hW
  refine (awake_true HN.out HM.out HQ.out W (HP.out.grown HB.out)).mono ?_
  rintro e w1 ⟨rfl, hb⟩
  replace HRow := Lib.hid (HRow.out.below hb); replace HX := Lib.hid (HX.out.grown hb); replace HB := Lib.hid (HB.out.trans (hb.mono HB.out.size))
  clear hb
  go_wp2_with fail
  refine (HN.out ⟨#[109]⟩ a _ (by decide) ⟨by omega, by omega⟩).mono ?_
  rintro e w2 ⟨h1, hb⟩
  rw [if_pos (right_m ha.1 ha.2)] at h1
  obtain ⟨b, rfl, h1⟩ := h1
  replace HRow := Lib.hid (HRow.out.below hb); replace HX := Lib.hid (HX.out.grown hb); replace HB := Lib.hid (HB.out.trans (hb.mono HB.out.size))
  have HH := Lib.hid h1
  clear h1 hb
  have c0 := HRow.out.cell (i := 0) rfl; have c1 := HRow.out.cell (i := 1) rfl; have c2 := HRow.out.cell (i := 2) rfl; have c3 := HRow.out.cell (i := 3) rfl; have c4 := HRow.out.cell (i := 4) rfl; have c5 := HRow.out.cell (i := 5) rfl; have cf := HRow.out.free 4
  go_wp2_with fail
  refine (HasR.mint HM.out HH.out (right_m ha.1 ha.2) (HP.out.grown HB.out) ⟨se, us, ep, is, ky, cp, cl, cc⟩ HX.out HF.out).mono ?_
  rintro e w3 ⟨h3, hb⟩
  clear c0 c1 c2 c3 c4 c5 cf
  replace HRow := Lib.hid (HRow.out.below hb); replace HX := Lib.hid (HX.out.grown hb); replace HB := Lib.hid (HB.out.trans (hb.mono HB.out.size))
  clear hb HH
  unfold MintIs at h3
  by_cases hr : (ClaimsV.keyed ⟨se, us, ep, is, ky, cp, cl, cc⟩ a).right = true
  · rw [if_pos hr] at h3
    obtain rfl := h3
    have HR := Lib.hid hr
    obtain ⟨TS, hTS⟩ : ∃ TS, TS = txt (tokenOf (nats ⟨#[109]⟩) (ClaimsV.keyed ⟨se, us, ep, is, ky, cp, cl, cc⟩ a).t) := ⟨_, rfl⟩
    rw [← hTS]
    have HTS := Lib.hid hTS
    clear hr hTS
    have c0 := HRow.out.cell (i := 0) rfl; have c1 := HRow.out.cell (i := 1) rfl; have c2 := HRow.out.cell (i := 2) rfl; have c3 := HRow.out.cell (i := 3) rfl; have c4 := HRow.out.cell (i := 4) rfl; have c5 := HRow.out.cell (i := 5) rfl; have cf := HRow.out.free 4
    go_wp2_with fail
    refine (HG.out _).mono ?_
    rintro e w4 ⟨rfl, hb⟩
    clear c0 c1 c2 c3 c4 c5 cf
    replace HRow := Lib.hid (HRow.out.below hb); replace HX := Lib.hid (HX.out.grown hb); replace HB := Lib.hid (HB.out.trans (hb.mono HB.out.size))
    clear hb
    by_cases hg : greatC ⟨se, us, ep, is, ky, cp, cl, cc⟩ = true
    · rw [hg]
      clear hg
      go_wp2
      go_ret
      exact ⟨rfl, HB.out⟩
    · rw [Bool.eq_false_iff.2 hg]
      clear hg
      go_wp2_with fail
      refine (HN.out ⟨#[109]⟩ n _ (by decide) ⟨by omega, by omega⟩).mono ?_
      rintro e w5 ⟨h1, hb⟩
      rw [if_pos (right_m hn.1 hn.2)] at h1
      obtain ⟨b2, rfl, h1⟩ := h1
      replace HRow := Lib.hid (HRow.out.below hb); replace HX := Lib.hid (HX.out.grown hb); replace HB := Lib.hid (HB.out.trans (hb.mono HB.out.size))
      have HH := Lib.hid h1
      clear h1 hb
      have HLt := Lib.hid HRow.out.lt
      go_wp2_with fail
      refine (HasR.readT HQ.out HH.out (right_m hn.1 hn.2) (HP.out.grown HB.out) TS (by rw [HTS.out, txt_len]; exact token_short (rightC_t ((rightC_iff _).1 HR.out)))).mono ?_
      rintro e w6 ⟨h6, hb⟩
      unfold ReadTIs at h6
      replace HRow := Lib.hid (HRow.out.below hb); replace HX := Lib.hid (HX.out.grown hb); replace HB := Lib.hid (HB.out.trans (hb.mono HB.out.size))
      clear hb HH
      by_cases hl : n ≤ a + 2
      · rw [HTS.out, read_minted HR.out (alive_made ha.1 ha.2 hl)] at h6
        obtain ⟨dp, dc, rfl, hz, hnew⟩ := h6
        have hsm := sameC_t (x := ⟨se, us, ep, is, a, cp, cl, cc⟩) ((rightC_iff _).1 HR.out) dp dc
        replace hz : Ints w6 (readCV (ClaimsV.keyed ⟨se, us, ep, is, ky, cp, cl, cc⟩ a).t dp dc).cp (readCV (ClaimsV.keyed ⟨se, us, ep, is, ky, cp, cl, cc⟩ a).t dp dc).cl := hz
        replace hnew : ∀ q, (readCV (ClaimsV.keyed ⟨se, us, ep, is, ky, cp, cl, cc⟩ a).t dp dc).cp = some q → q.block ≠ w.heap.size := fun q hq => by have := hnew q hq; have := HLt.out; omega
        have hfw := few_read (rightC_t ((rightC_iff _).1 HR.out)) dp dc
        obtain ⟨Y, hY⟩ : ∃ Y, Y = readCV (ClaimsV.keyed ⟨se, us, ep, is, ky, cp, cl, cc⟩ a).t dp dc := ⟨_, rfl⟩
        replace hsm : sameC ⟨se, us, ep, is, a, cp, cl, cc⟩ Y = true := by rw [hY]; exact hsm
        rw [← hY] at hz hnew hfw
        rw [← hY]
        clear hY
        obtain ⟨s2, u2, p2, i2, k2, cp2, cl2, cc2⟩ := Y
        simp only [ClaimsV.val]
        have t1 : decide (a + 2 < n) = false := decide_eq_false (by omega)
        have t2 : ¬ (a + 2 < n) := by omega
        have hbd : Below w6.heap.size w6 (w6.alloc (.cells #[.string s2, .string u2, .int .i64 p2, .int .i64 i2, .int .i64 k2, .slice cp2 cl2.length cc2] 31)) := (Below.refl _ _).alloc (Nat.le_refl _) _
        have r6 := HRow.out.below hbd
        have r7 := r6.set 4 (.int .i64 a)
        have q6 : Row (w6.alloc (.cells #[.string s2, .string u2, .int .i64 p2, .int .i64 i2, .int .i64 k2, .slice cp2 cl2.length cc2] 31)) w6.heap.size [.string s2, .string u2, .int .i64 p2, .int .i64 i2, .int .i64 k2, .slice cp2 cl2.length cc2] 31 := Row.new w6 _ _
        have q7 := q6.but (But.set w.heap.size 4 _ (.int .i64 a)) (by have := HRow.out.lt; omega)
        have HB7 := Lib.hid (below_at7 (HB.out.trans (hbd.mono HB.out.size)) (Nat.le_refl _) 4 (.int .i64 a))
        have HZ7 := Lib.hid ((hz.grown hbd).but (But.set w.heap.size 4 _ (.int .i64 a)) hnew)
        have HSC := Lib.hid (sameClaims_ok ⟨se, us, ep, is, a, cp, cl, cc⟩ ⟨s2, u2, p2, i2, k2, cp2, cl2, cc2⟩ _ (HX0.out.grown HB7.out) HZ7.out HF.out.small.vec hfw.small.vec)
        rw [hsm] at HSC
        simp only [ClaimsV.val] at HSC
        have c4 := r6.cell (i := 4) rfl; have cf := r6.free 4
        have e0 := r7.cell (i := 0) rfl; have e1 := r7.cell (i := 1) rfl; have e2 := r7.cell (i := 2) rfl; have e3 := r7.cell (i := 3) rfl; have e4 := r7.cell (i := 4) rfl; have e5 := r7.cell (i := 5) rfl
        have d0 := q7.cell (i := 0) rfl; have d1 := q7.cell (i := 1) rfl; have d2 := q7.cell (i := 2) rfl; have d3 := q7.cell (i := 3) rfl; have d4 := q7.cell (i := 4) rfl; have d5 := q7.cell (i := 5) rfl
        clear hz hnew hfw hbd r6 r7 q6 q7 hl hsm HZ7
        go_wp2_with fail
        refine HSC.out.mono ?_
        rintro e w8 ⟨rfl, hb⟩
        replace HB7 := Lib.hid (HB7.out.trans (hb.mono HB7.out.size))
        clear hb c4 cf e0 e1 e2 e3 e4 e5 d0 d1 d2 d3 d4 d5
        go_wp2
        go_ret
        exact ⟨rfl, HB7.out⟩
      · rw [HTS.out, read_retired HR.out (alive_over ha.1 (by omega))] at h6
        obtain ⟨r, rfl, he⟩ := h6
        obtain ⟨T, u, rfl⟩ := he.iface
        have HE := Lib.hid he
        have t1 : decide (a + 2 < n) = true := decide_eq_true (by omega)
        have t2 : a + 2 < n := by omega
        clear hl he
        unfold zeroC
        go_wp2_with fail
        refine (is_err (HE.out.below ((Below.refl _ _).alloc (Nat.le_refl _) _)) 9).mono ?_
        rintro e w9 ⟨rfl, hw⟩
        rw [hw]
        clear hw
        go_wp2
        go_ret
        exact ⟨rfl, HB.out.alloc (by have := HB.out.size; omega) _⟩
  · rw [if_neg hr] at h3
    obtain ⟨r, rfl, hx⟩ := h3
    obtain ⟨T, u, rfl⟩ := hx.iface
    clear hx hr
    have c0 := HRow.out.cell (i := 0) rfl; have c1 := HRow.out.cell (i := 1) rfl; have c2 := HRow.out.cell (i := 2) rfl; have c3 := HRow.out.cell (i := 3) rfl; have c4 := HRow.out.cell (i := 4) rfl; have c5 := HRow.out.cell (i := 5) rfl; have cf := HRow.out.free 4
    go_wp2_with fail
    refine (HG.out _).mono ?_
    rintro e w4 ⟨rfl, hb⟩
    clear c0 c1 c2 c3 c4 c5 cf
    replace HRow := Lib.hid (HRow.out.below hb); replace HX := Lib.hid (HX.out.grown hb); replace HB := Lib.hid (HB.out.trans (hb.mono HB.out.size))
    clear hb
    cases greatC ⟨se, us, ep, is, ky, cp, cl, cc⟩
    all_goals
      go_wp2
      go_ret
      exact ⟨rfl, HB.out⟩
end Go.Proofs.YtajhegjemhegiaaDoor
