/-
  The program's mend of chapter 10. The conditions: crc's tables; parts and a device that lie in memory, apart.
-/
import Derived.Test.YtajkldmpllphjaaDoorJournalQ12
import Derived.Test.YtajkldmpllphjaaDoorJournalQ10
namespace Go.Proofs.YtajkldmpllphjaaDoor
open Go.RowKit BlockMath FrameMath TextNat JournalMath

/-- What stands outside a device stays through its calls. -/
theorem Been.liesM {w w1 : World} {b k : Nat} {S S1 : Nat → Prop} {d : Dk} {l : List Value} {T : TypeId} (h : Been w b S d w1 S1) (hl : Lies w k l T) (hn : ¬ S k) : Lies w1 k l T := (h.apart.block k hl.lt hn).trans hl
theorem Been.parts {w w1 : World} {b : Nat} {S S1 : Nat → Prop} {d : Dk} {pp : Option Addr} {A : List (Part × Nat)} (h : Been w b S d w1 S1) (hp : PartsIn w pp A) (hn : ∀ a, pp = some a → ¬ S a.block) : PartsIn w1 pp A := fun i a ha => by
  obtain ⟨pb, off, rfl, hc⟩ := hp i a ha
  refine ⟨pb, off, rfl, fun j u hu => ?_⟩
  have h2 := h.apart.block pb (World.block_lt_of_cell? w _ (hc j u hu)) (hn _ rfl)
  rw [← hc j u hu]
  unfold World.cell?
  simp only [h2]
theorem does_from {w W0 w' : World} {b : Nat} {S : Nat → Prop} {d : Dk} (hb : Below w.heap.size w W0) (h : Does dev W0 b S d w') : Does dev w b S d w' := by
  obtain ⟨⟨S', h1, h2⟩, h3⟩ := h
  refine ⟨⟨S', h1, fun k hk => ?_⟩, (Apart.of hb).trans h3⟩
  rcases h2 k hk with h | h
  · exact .inl h
  · exact .inr (Nat.le_trans hb.size h)
def restF (d : Dk) (g : Nat) (L : List Part) : Int × List Part × Dk :=
  if (L.getLast?.map Part.kind) = some 4 then (0, L, d)
  else if (JournalMath.marks d g).1 ≠ 4 then ((JournalMath.marks d g).1, L, (JournalMath.marks d g).2)
  else if sealedN L = 0 then (0, L, (JournalMath.marks d g).2)
  else ((cut (placeOf L (sealedN L)) (JournalMath.marks d g).2).1, L.take (sealedN L), (cut (placeOf L (sealedN L)) (JournalMath.marks d g).2).2)
theorem settle_no {d : Dk} {g e : Nat} {L : List Part} (h : ¬ e < (all d).size) : JournalMath.settle d g L e = restF d g L := by
  unfold JournalMath.settle restF
  simp only [if_neg h]
  rfl
theorem settle_cut {d : Dk} {g e : Nat} {L : List Part} (h : e < (all d).size) (h0 : (cut (e : Int) d).1 ≠ 0) : JournalMath.settle d g L e = ((cut (e : Int) d).1, L, (cut (e : Int) d).2) := by
  unfold JournalMath.settle
  simp only [if_pos h]
  rw [if_pos h0]
theorem settle_rest {d : Dk} {g e : Nat} {L : List Part} (h : e < (all d).size) (h0 : (cut (e : Int) d).1 = 0) : JournalMath.settle d g L e = restF (cut (e : Int) d).2 g L := by
  unfold JournalMath.settle restF
  simp only [if_pos h]
  rw [if_neg (fun h => h h0)]
/-- What mend answers. -/
def MendIs (w' : World) (L : List Part) (r : Int × List Part × Dk) (e : Ending) : Prop := ∃ pq n c x, e = .returned (.tuple #[.slice pq n c, x]) ∧ TErr w' r.1 x ∧ PartsIn w' pq (pairs (L.take n) 0) ∧ n ≤ L.length ∧ (r.1 = 0 → r.2.1 = L.take n)
theorem mend_is {w' : World} {L : List Part} {pp : Option Addr} {N cap : Nat} {x : Value} {c : Int} {d : Dk} (hp : PartsIn w' pp (pairs L 0)) (hx : TErr w' c x) (hN : N = L.length) : MendIs w' L (c, L, d) (.returned (.tuple #[.slice pp N cap, x])) :=
  ⟨pp, N, cap, x, rfl, hx, by rw [hN, List.take_length]; exact hp, Nat.le_of_eq hN, fun _ => by rw [hN, List.take_length]⟩
theorem pairs_take : ∀ (L : List Part) (n i : Nat), pairs (L.take n) i = (pairs L i).take n
  | [], n, i => by simp [pairs]
  | p :: r, 0, i => rfl
  | p :: r, n + 1, i => by
    show (p, _) :: pairs (r.take n) _ = (p, _) :: (pairs r _).take n
    rw [pairs_take r n]
theorem mend_take {w' : World} {L : List Part} {pp : Option Addr} {n cap : Nat} {x : Value} {c : Int} {d : Dk} (hp : PartsIn w' pp (pairs L 0)) (hx : TErr w' c x) (hn : n ≤ L.length) : MendIs w' L (c, L.take n, d) (.returned (.tuple #[.slice pp n cap, x])) := by
  refine ⟨pp, n, cap, x, rfl, hx, fun i a ha => ?_, hn, fun _ => rfl⟩
  rw [pairs_take, List.getElem?_take] at ha
  split at ha
  · exact hp i a ha
  · cases ha
theorem markN_le (L : List Part) : markN L ≤ L.length := by
  unfold markN
  split
  · exact Nat.le_refl _
  · exact sealedN_le L
set_option maxRecDepth 100000 in
set_option maxHeartbeats 8000000 in
theorem pmend_ok (b : Nat) (S : Nat → Prop) (d : Dk) (pp : Option Addr) (cap : Nat) (L : List Part) (en : Nat) (cor : Bool) (w : World) (hT : Tables w) (hS : Far S) (h : dev.at_ w b S d) (ok : Ok d) (ho : d.off = false) (hp : PartsIn w pp (pairs L 0)) (hl : L.length ≤ 500000) (hl0 : 0 < L.length) (hc : L.length ≤ cap) (hz : (enc L).length ≤ 16000000) (hen : en ≤ 16000000) (hnp : ∀ a, pp = some a → ¬ S a.block) (g : Nat) (hgg : g = headGen L) (hg : g ≤ WireMath.top) :
    Calls Tryd.prog 34 #[ptr b, .agg #[.slice pp L.length cap, .int .i64 (en : Int), .bool cor]] w fun e w' => MendIs w' L (JournalMath.settle d g L en) e ∧ Does dev w b S (JournalMath.settle d g L en).2.2 w' := by
  have HGen := Lib.hid (fun wx (hx : PartsIn wx pp (pairs L 0)) => phead_ok pp cap L (en : Int) cor wx hx (by omega))
  rw [← hgg] at HGen
  have HCM := Lib.hid (fun S1 d1 wx (h1 : dev.at_ wx b S1 d1) (o1 : Ok d1) (hx : PartsIn wx pp (pairs L 0)) => pcutmark_ok b S1 d1 pp cap L wx h1 o1 hx hl hc hz)
  obtain ⟨N, hN⟩ : ∃ N, N = L.length := ⟨_, rfl⟩
  have HN := Lib.hid hN
  have HCAP := Lib.hid hN
  have hN9 : N ≤ 500000 := by rw [hN]; exact hl
  rw [← hN] at HGen HCM ⊢
  obtain ⟨i, hi⟩ : ∃ i, N = i + 1 := ⟨N - 1, by omega⟩
  obtain ⟨pl, hpl⟩ : ∃ p, L[i]? = some p := ⟨_, List.getElem?_eq_getElem (by omega)⟩
  have HLAST := Lib.hid hpl
  obtain ⟨kz, hkz⟩ : ∃ kz : Int, kz = (pl.kind : Int) := ⟨_, rfl⟩
  have HKZ := Lib.hid hkz
  have HLK := Lib.hid (show (L.getLast?.map Part.kind) = some 4 ↔ kz = 4 by
    rw [List.getLast?_eq_getElem?, ← hN, hi, Nat.add_sub_cancel, hpl, hkz]
    simp
    omega)
  have al := (Below.refl w.heap.size w).alloc (Nat.le_refl _) (.cells #[.slice pp N cap, .int .i64 (en : Int), .bool cor] 61)
  obtain ⟨W0, hW0⟩ : ∃ W0, W0 = w.alloc (.cells #[.slice pp N cap, .int .i64 (en : Int), .bool cor] 61) := ⟨_, rfl⟩
  obtain ⟨tb, htb⟩ : ∃ tb, tb = w.heap.size := ⟨_, rfl⟩
  have HTB := Lib.hid htb
  have HW0E := Lib.hid hW0
  have LT := Lib.hid (show Lies W0 tb [.slice pp N cap, .int .i64 (en : Int), .bool cor] 61 by rw [hW0, htb]; exact Lies.new w _ _)
  rw [← hW0] at al
  have HW0 := Lib.hid al
  have NT := Lib.hid (show ¬ S tb from fun hs => by have := dev.lt h tb hs; omega)
  have HX := Lib.hid (hp.below al)
  have HNP := Lib.hid hnp
  have HT := Lib.hid (hT.grown al)
  have HS := Lib.hid hS
  have OK := Lib.hid ok
  have HG := Lib.hid hg
  have HB0 := Lib.hid (Been.start (dev.stays h al.size fun k hk => al.block k (dev.lt h k hk)))
  have HEN := Lib.hid hen
  have HLen := Lib.hid (lenOk b S d W0.drew (dev_drew HB0.out.at_) ok)
  rw [size_on ho] at HLen
  obtain ⟨z, hz2⟩ : ∃ z, z = (all d).size := ⟨_, rfl⟩
  have HZ := Lib.hid hz2
  rw [← hz2] at HLen
  have kw : IntKind.i64.wrap ((N : Int) - 1) = (i : Int) := by rw [IntKind.wrap_i64]; omega
  have hiN : i < N := by omega
  clear hT hS h ok ho hp hl hl0 hc hz hen hnp hgg hg hN hi hpl hkz al hW0 htb hz2
  go_enter Tryd.func34, Tryd.ntmps34
  go_wp2_with fail
  rw [← HW0E.out, ← HTB.out]
  have c1 := Lies.cell (i := 1) LT.out rfl
  have c1d : W0.drew.cell? ⟨tb, 1, none⟩ = some (.int .i64 (en : Int)) := c1
  by_cases hez : en < z
  · have t1 : decide ((en : Int) < (z : Int)) = true := decide_eq_true (by omega)
    have t1' : decide (en < z) = true := decide_eq_true hez
    go_region_with (go_at_call 25; refine HLen.out.mono ?_; rintro e w9 ⟨rfl, hb⟩; have HBL := Lib.hid hb; have c9 := (Lies.cell (i := 1) ((show Lies W0.drew tb _ _ from LT.out).below hb) rfl); clear hb)
    all_goals
      have HB9 := Lib.hid ((HB0.out.below (Below.refl _ _).drew).below HBL.out)
      go_wp2_with fail
      refine (cutOk b S d (en : Int) w9 HB9.out.at_ OK.out (by have := HEN.out; unfold I64; omega)).mono ?_
      rintro e w1 ⟨⟨x, rfl, hx⟩, hd⟩
      obtain ⟨S1, hb1⟩ := HB9.out.does hd
      have HB1 := Lib.hid hb1
      have X1 := TErr.of hx
      clear hx hd hb1
      by_cases hc0 : (cut (en : Int) d).1 = 0
      · obtain rfl := X1.zero hc0
        obtain ⟨D1, hD1⟩ : ∃ D1, D1 = (cut (en : Int) d).2 := ⟨_, rfl⟩
        have OK1 := Lib.hid (show Ok D1 by rw [hD1]; exact OK.out.cut _)
        have HEQ := Lib.hid (show JournalMath.settle d g L en = restF D1 g L by rw [hD1]; exact settle_rest (by rw [← HZ.out]; exact hez) hc0)
        rw [← hD1] at HB1
        clear X1 hc0 hD1 c9
        have HTb := Lib.hid (HB1.out.liesM LT.out NT.out)
        have HPw := Lib.hid (HB1.out.parts HX.out HNP.out)
        have d0 := Lies.cell (i := 0) HTb.out rfl
        have d1 := Lies.cell (i := 1) HTb.out rfl
        have d2 := Lies.cell (i := 2) HTb.out rfl
        obtain ⟨lb, loff, lm, hpp, -, e0, -, -, -, -⟩ := HPw.out.at_ HLAST.out
        rw [← HKZ.out] at e0
        subst hpp
        by_cases hk : kz = 4
        · have t4 : (kz == 4) = true := by rw [beq_iff_eq]; exact hk
          have HM := Lib.hid (show restF D1 g L = (0, L, D1) by unfold restF; rw [if_pos (HLK.out.2 hk)])
          clear hk
          go_wp2
          go_ret2
          rw [HEQ.out, HM.out]
          exact ⟨mend_is HPw.out (by unfold TErr; rw [if_pos rfl]; rfl) HCAP.out, does_from HW0.out HB1.out.to⟩
        · have t4 : (kz == 4) = false := by rw [beq_eq_false_iff_ne]; exact hk
          have HM := Lib.hid (show restF D1 g L = if (JournalMath.marks D1 g).1 ≠ 4 then ((JournalMath.marks D1 g).1, L, (JournalMath.marks D1 g).2) else if sealedN L = 0 then (0, L, (JournalMath.marks D1 g).2) else ((cut (placeOf L (sealedN L)) (JournalMath.marks D1 g).2).1, L.take (sealedN L), (cut (placeOf L (sealedN L)) (JournalMath.marks D1 g).2).2) by unfold restF; rw [if_neg fun h => hk (HLK.out.1 h)])
          clear hk
          go_wp2_with fail
          refine (HGen.out w1 HPw.out).mono ?_
          rintro e w3 ⟨rfl, hb⟩
          have HB3 := Lib.hid (HB1.out.below hb)
          clear hb
          go_wp2_with fail
          refine (pack_ok b g S1 D1 w3 (HB3.out.tables HT.out HS.out) (been_far HB3.out HT.out HS.out) HB3.out.at_ OK1.out HG.out).mono ?_
          rintro e w4 ⟨⟨x, rfl, X⟩, hd⟩
          obtain ⟨R, hR⟩ : ∃ R, R = JournalMath.marks D1 g := ⟨_, rfl⟩
          rw [← hR] at X hd HM
          have OKR := Lib.hid (show Ok R.2 by rw [hR]; exact ok_marks OK1.out g)
          obtain ⟨S4, hb4⟩ := HB3.out.does hd
          have HB4 := Lib.hid hb4
          have HTb4 := Lib.hid (HB4.out.liesM LT.out NT.out)
          have HP4 := Lib.hid (HB4.out.parts HX.out HNP.out)
          have HE := Lib.hid (is_terr X 4 (by decide))
          have HXR := Lib.hid X
          have f0 := Lies.cell (i := 0) HTb4.out rfl
          clear hd hb4 hR X d0 d1 d2
          by_cases h4 : R.1 = 4
          · rw [show (R.1 == (4 : Int)) = true by rw [beq_iff_eq]; exact h4] at HE
            have HM2 := Lib.hid (show restF D1 g L = ((markD L R.2).1, L.take (markN L), (markD L R.2).2) by
              rw [HM.out, if_neg (fun h => h h4)]
              unfold markD markN
              split
              · rw [List.take_length]
              · rfl)
            clear h4
            go_wp2_with (go_at_call 7; refine HE.out.mono ?_; rintro e w8 ⟨rfl, hw8⟩; rw [hw8]; clear hw8)
            refine (HCM.out S4 R.2 w4 HB4.out.at_ OKR.out HP4.out).mono ?_
            rintro e w9 ⟨⟨y, rfl, hy⟩, hd⟩
            obtain ⟨S9, hb9⟩ := HB4.out.does hd
            have HB9 := Lib.hid hb9
            have HP9 := Lib.hid (hb9.parts HX.out HNP.out)
            have HY := Lib.hid hy
            clear hy hd hb9
            go_wp2
            go_ret2
            rw [HEQ.out, HM2.out]
            exact ⟨mend_take HP9.out HY.out (markN_le L), does_from HW0.out HB9.out.to⟩
          · rw [show (R.1 == (4 : Int)) = false by rw [beq_eq_false_iff_ne]; exact h4] at HE
            have HM2 := Lib.hid (show restF D1 g L = (R.1, L, R.2) by rw [HM.out, if_pos h4])
            clear h4
            go_wp2_with (go_at_call 7; refine HE.out.mono ?_; rintro e w8 ⟨rfl, hw8⟩; rw [hw8]; clear hw8)
            go_ret2
            rw [HEQ.out, HM2.out]
            exact ⟨mend_is HP4.out HXR.out HCAP.out, does_from HW0.out HB4.out.to⟩
      · have hE := X1.not hc0
        obtain ⟨T9, u9, rfl⟩ := hE.iface
        have HXX := Lib.hid X1
        have HEQ := Lib.hid (show JournalMath.settle d g L en = ((cut (en : Int) d).1, L, (cut (en : Int) d).2) from settle_cut (by rw [← HZ.out]; exact hez) hc0)
        have HC0 := Lib.hid hc0
        clear X1 hE hc0 c9
        go_wp2
        go_ret2
        rw [HEQ.out]
        exact ⟨⟨none, 0, 0, _, rfl, HXX.out, fun i a ha => by simp [pairs] at ha, Nat.zero_le _, fun h => absurd h HC0.out⟩, does_from HW0.out HB1.out.to⟩
  · have t1 : decide ((en : Int) < (z : Int)) = false := decide_eq_false (by omega)
    have t1' : decide (en < z) = false := decide_eq_false hez
    have HEQ := Lib.hid (show JournalMath.settle d g L en = restF d g L from settle_no (by rw [← HZ.out]; exact hez))
    go_region_with (go_at_call 25; refine HLen.out.mono ?_; rintro e w9 ⟨rfl, hb⟩; have HBL := Lib.hid hb; have c9 := (Lies.cell (i := 1) ((show Lies W0.drew tb _ _ from LT.out).below hb) rfl); clear hb)
    all_goals
      have HB9 := Lib.hid ((HB0.out.below (Below.refl _ _).drew).below HBL.out)
      clear c9
      have HTb := Lib.hid (HB9.out.liesM LT.out NT.out)
      have HPw := Lib.hid (HB9.out.parts HX.out HNP.out)
      have d0 := Lies.cell (i := 0) HTb.out rfl
      have d1 := Lies.cell (i := 1) HTb.out rfl
      have d2 := Lies.cell (i := 2) HTb.out rfl
      obtain ⟨lb, loff, lm, hpp, -, e0, -, -, -, -⟩ := HPw.out.at_ HLAST.out
      rw [← HKZ.out] at e0
      subst hpp
      by_cases hk : kz = 4
      · have t4 : (kz == 4) = true := by rw [beq_iff_eq]; exact hk
        have HM := Lib.hid (show restF d g L = (0, L, d) by unfold restF; rw [if_pos (HLK.out.2 hk)])
        clear hk
        go_wp2
        go_ret2
        rw [HEQ.out, HM.out]
        exact ⟨mend_is HPw.out (by unfold TErr; rw [if_pos rfl]; rfl) HCAP.out, does_from HW0.out HB9.out.to⟩
      · have t4 : (kz == 4) = false := by rw [beq_eq_false_iff_ne]; exact hk
        have HM := Lib.hid (show restF d g L = if (JournalMath.marks d g).1 ≠ 4 then ((JournalMath.marks d g).1, L, (JournalMath.marks d g).2) else if sealedN L = 0 then (0, L, (JournalMath.marks d g).2) else ((cut (placeOf L (sealedN L)) (JournalMath.marks d g).2).1, L.take (sealedN L), (cut (placeOf L (sealedN L)) (JournalMath.marks d g).2).2) by unfold restF; rw [if_neg fun h => hk (HLK.out.1 h)])
        clear hk
        go_wp2_with fail
        refine (HGen.out w9 HPw.out).mono ?_
        rintro e w3 ⟨rfl, hb⟩
        have HB3 := Lib.hid (HB9.out.below hb)
        clear hb
        go_wp2_with fail
        refine (pack_ok b g S d w3 (HB3.out.tables HT.out HS.out) (been_far HB3.out HT.out HS.out) HB3.out.at_ OK.out HG.out).mono ?_
        rintro e w4 ⟨⟨x, rfl, X⟩, hd⟩
        obtain ⟨R, hR⟩ : ∃ R, R = JournalMath.marks d g := ⟨_, rfl⟩
        rw [← hR] at X hd HM
        have OKR := Lib.hid (show Ok R.2 by rw [hR]; exact ok_marks OK.out g)
        obtain ⟨S4, hb4⟩ := HB3.out.does hd
        have HB4 := Lib.hid hb4
        have HTb4 := Lib.hid (HB4.out.liesM LT.out NT.out)
        have HP4 := Lib.hid (HB4.out.parts HX.out HNP.out)
        have HE := Lib.hid (is_terr X 4 (by decide))
        have HXR := Lib.hid X
        have f0 := Lies.cell (i := 0) HTb4.out rfl
        clear hd hb4 hR X d0 d1 d2
        by_cases h4 : R.1 = 4
        · rw [show (R.1 == (4 : Int)) = true by rw [beq_iff_eq]; exact h4] at HE
          have HM2 := Lib.hid (show restF d g L = ((markD L R.2).1, L.take (markN L), (markD L R.2).2) by
            rw [HM.out, if_neg (fun h => h h4)]
            unfold markD markN
            split
            · rw [List.take_length]
            · rfl)
          clear h4
          go_wp2_with (go_at_call 7; refine HE.out.mono ?_; rintro e w8 ⟨rfl, hw8⟩; rw [hw8]; clear hw8)
          refine (HCM.out S4 R.2 w4 HB4.out.at_ OKR.out HP4.out).mono ?_
          rintro e w9 ⟨⟨y, rfl, hy⟩, hd⟩
          obtain ⟨S9, hb9⟩ := HB4.out.does hd
          have HB9 := Lib.hid hb9
          have HP9 := Lib.hid (hb9.parts HX.out HNP.out)
          have HY := Lib.hid hy
          clear hy hd hb9
          go_wp2
          go_ret2
          rw [HEQ.out, HM2.out]
          exact ⟨mend_take HP9.out HY.out (markN_le L), does_from HW0.out HB9.out.to⟩
        · rw [show (R.1 == (4 : Int)) = false by rw [beq_eq_false_iff_ne]; exact h4] at HE
          have HM2 := Lib.hid (show restF d g L = (R.1, L, R.2) by rw [HM.out, if_pos h4])
          clear h4
          go_wp2_with (go_at_call 7; refine HE.out.mono ?_; rintro e w8 ⟨rfl, hw8⟩; rw [hw8]; clear hw8)
          go_ret2
          rw [HEQ.out, HM2.out]
          exact ⟨mend_is HP4.out HXR.out HCAP.out, does_from HW0.out HB4.out.to⟩
end Go.Proofs.YtajkldmpllphjaaDoor
