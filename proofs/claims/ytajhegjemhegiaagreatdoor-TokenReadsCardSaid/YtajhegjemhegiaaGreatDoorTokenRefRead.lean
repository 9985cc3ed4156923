/-
  The document's Read of chapter 12. The conditions: a master of at most 5000 bytes, a right current number, a text of at most 10,000 bytes.
-/
import Derived.Test.YtajhegjemhegiaaGreatDoorPart27
import Derived.Test.YtajhegjemhegiaaGreatDoorPart35
import Derived.Test.YtajhegjemhegiaaGreatDoorWireRefReadC
import Derived.Test.YtajhegjemhegiaaGreatDoorPart37
namespace Go.Proofs.YtajhegjemhegiaaGreatDoor
open Go.RowKit TextNat TokenMath

/-- What the document's Read answers. -/
def RefReadIs (w : World) (m : ByteArray) (c : Int) (s : ByteArray) (e : Ending) : Prop :=
  match readF (aliveN c) (nats m) (nats s) with
  | some v => ∃ dp dc, e = .returned (.tuple #[(readCV v dp dc).val, .bool true]) ∧ Ints w dp (v.2.2.2.2.2.map Int.ofNat)
  | none => e = .returned (.tuple #[zeroC, .bool false])
theorem tk_take (s : ByteArray) (n : Nat) : nats (s.extract 0 n) = (nats s).take n := by
  unfold nats
  rw [← List.map_take]
  congr 1
  simp [ByteArray.data_extract]
theorem vecNew_dp {B n c : Nat} {x0 x1 x2 x3 x4 r : Value} {dp : Option Addr} (h : vecNew B (.returned (.tuple #[.agg #[x0, x1, x2, x3, x4, .slice dp n c], r]))) : ∀ a, dp = some a → B ≤ a.block := by
  rintro a rfl
  exact h
theorem wideR : WireMath.wideC 4611686018427387903 4611686018427387903 4611686018427387903 4611686018427387903 4611686018427387903 := ⟨by decide, by decide, by decide, by decide, by decide⟩
theorem readC_of {l : List Nat} (hl : ∀ b ∈ l, b < 256) : readC l = claimsOf l := by
  cases h : claimsOf l with
  | some v => exact (WireMath.claims_whole l hl wideR v).2 ((claimsOf_iff hl v).1 h)
  | none =>
    cases h2 : readC l with
    | none => rfl
    | some v =>
      have := (claimsOf_iff hl v).2 ((WireMath.claims_whole l hl wideR v).1 h2)
      rw [h] at this
      cases this
theorem dot_none {l : List Nat} (h : ∀ j, j < l.length → l[j]? ≠ some 46) : l.findIdx? (· == 46) = none := by
  rw [List.findIdx?_eq_none_iff]
  intro x hx
  obtain ⟨j, hj, he⟩ := List.mem_iff_getElem.1 hx
  have := h j hj
  rw [List.getElem?_eq_getElem hj, he] at this
  rw [beq_eq_false_iff_ne]
  exact fun e => this (by rw [e])
theorem dot_some {l : List Nat} {i : Nat} (h : ∀ j, j < i → l[j]? ≠ some 46) (hi : l[i]? = some 46) : l.findIdx? (· == 46) = some i := by
  rw [List.findIdx?_eq_some_iff_getElem]
  obtain ⟨h1, h2⟩ := List.getElem?_eq_some_iff.1 hi
  refine ⟨h1, by rw [h2]; rfl, fun j hj he => ?_⟩
  refine h j hj ?_
  rw [List.getElem?_eq_getElem (Nat.lt_trans hj h1)]
  congr 1
  simpa using he
set_option maxRecDepth 100000 in
set_option maxHeartbeats 8000000 in
theorem refRead12 (m : ByteArray) (c : Int) (s : ByteArray) (w : World) (hm : m.size ≤ 5000) (hc : 0 ≤ c ∧ c ≤ 1099511627776) (hs : s.size ≤ 10000) :
    Calls Tryz.prog 13 #[.string m, .int .i64 c, .string s] w fun e w' => RefReadIs w' m c s e ∧ Below w.heap.size w w' := by
  have HM := Lib.hid hm
  have HCc := Lib.hid hc
  have HS := Lib.hid hs
  clear hm hc hs
  go_enter Tryz.func13, Tryz.ntmps13
  go_wp2
  obtain ⟨W, hW⟩ : ∃ W, W = w.alloc (.cells zerosC.toArray 25) := ⟨_, rfl⟩
  change Code.wp _ _ _ _ (w.alloc (.cells zerosC.toArray 25))
  rw [← hW]
  have HB0 := Lib.hid (show Below w.heap.size w W by rw [hW]; exact (Below.refl _ _).alloc (Nat.le_refl _) _)
  have HRes0 := Lib.hid (show Row W w.heap.size zerosC 25 by rw [hW]; exact Row.new w zerosC _)
  clear hW
  go_loopg [8] s.size (fun gh s8 wx => ∃ i : Nat, i + gh = s.size ∧ s8 = .int .i64 (i : Int) ∧ Hid (∀ j, j < i → (nats s)[j]? ≠ some 46) ∧ wx = W)
  case atStart => exact ⟨0, by omega, by go_num, Lib.hid (fun j hj => absurd hj (Nat.not_lt_zero j)), rfl⟩
  case round =>
    obtain ⟨i, hi, rfl, hn, rfl⟩ := hrel
    have HB := HB0
    have HRes := HRes0
    by_cases hlt : i < s.size
    · have t1 : decide ((i : Int) < (s.size : Int)) = true := decide_eq_true (by omega)
      have t1' : decide (i < s.size) = true := decide_eq_true hlt
      obtain ⟨z, hz⟩ : ∃ z, z = (s[i]'hlt).toNat := ⟨_, rfl⟩
      have hx : ((s[i]'hlt).toNat : Int) = (z : Int) := by rw [hz]
      have hzi : (nats s)[i]? = some z := by rw [hz]; exact nats_at s i hlt
      by_cases h46 : z = 46
      · subst h46
        have HFd := Lib.hid (dot_some hn.out hzi)
        have hic : i ≤ s.size := by omega
        have HD := Lib.hid (refDec (s.extract 0 i) wr (by rw [ByteArray.size_extract]; have := HS.out; omega))
        rw [tk_take] at HD
        obtain ⟨L, hL⟩ : ∃ L, L = (nats s).take i := ⟨_, rfl⟩
        have HLl := Lib.hid (show L.length ≤ 10000 by rw [hL, List.length_take, nats_len]; have := HS.out; omega)
        rw [← hL] at HD
        have HF : Hid (readF (aliveN c) (nats m) (nats s) = if (TextMath.fault L).isSome then none else
            match claimsOf (TextMath.decBytes L) with
            | none => none
            | some v => if aliveN c (keyN v) = true ∧ tokenOf (nats m) v = nats s then some v else none) := Lib.hid (by
          unfold readF
          rw [HFd.out, hL]
          rfl)
        clear hz hzi hn hL HFd
        cases hf : TextMath.fault L with
        | some k =>
          rw [hf] at HF
          have HN := Lib.hid (show readF (aliveN c) (nats m) (nats s) = none from HF.out)
          unfold decValue at HD
          rw [hf] at HD
          have tk : decide ((0 : Int) ≤ (k : Int)) = true := decide_eq_true (by omega)
          clear hf HF
          go_wp2_with fail
          refine HD.out.mono ?_
          rintro e w2 ⟨rfl, hb⟩
          replace HRes := Lib.hid (HRes.out.below hb)
          replace HB := Lib.hid (HB.out.trans (hb.mono HB.out.size))
          clear hb
          have c0 := HRes.out.cell (i := 0) rfl; have g0 := HRes.out.free 0; have c1 := HRes.out.cell (i := 1) rfl; have g1 := HRes.out.free 1; have c2 := HRes.out.cell (i := 2) rfl; have g2 := HRes.out.free 2; have c3 := HRes.out.cell (i := 3) rfl; have g3 := HRes.out.free 3; have c4 := HRes.out.cell (i := 4) rfl; have g4 := HRes.out.free 4; have c5 := HRes.out.cell (i := 5) rfl; have g5 := HRes.out.free 5
          go_wp2
          obtain ⟨q1, q2⟩ := put_six HRes.out (.string ⟨#[]⟩) (.string ⟨#[]⟩) (.int .i64 0) (.int .i64 0) (.int .i64 0) (.slice none 0 0)
          refine bodyPost_ret (results_cell_tmp Tryz.results13 _ _ w.heap.size 25 _ (0, 0) _ rfl q1 Tryz.underlying25 rfl (by kernel_rfl)) rfl ?_
          exact ⟨by unfold RefReadIs; rw [HN.out]; rfl, HB.out.trans (q2.below HB.out.size)⟩
        | none =>
          rw [hf] at HF
          simp only [Option.isSome_none, Bool.false_eq_true, if_false] at HF
          unfold decValue at HD
          rw [hf] at HD
          obtain ⟨D, hD⟩ : ∃ D, D = txt (TextMath.decBytes L) := ⟨_, rfl⟩
          have HDn := Lib.hid (show nats D = TextMath.decBytes L by rw [hD]; exact nats_txt _ (TextMath.decBytes_lt L))
          have HDs := Lib.hid (show D.size ≤ 200000 by rw [hD, txt_len, TextMath.decBytes_len]; have := HLl.out; omega)
          rw [← hD] at HD
          clear hf hD
          go_wp2_with fail
          refine HD.out.mono ?_
          rintro e w2 ⟨rfl, hb⟩
          replace HRes := Lib.hid (HRes.out.below hb)
          replace HB := Lib.hid (HB.out.trans (hb.mono HB.out.size))
          clear hb
          go_wp2_with fail
          refine (refReadClaims_new D w2 HDs.out).mono ?_
          rintro e w3 ⟨⟨h3, hvn⟩, hb⟩
          unfold ReadIsC at h3
          rw [HDn.out, readC_of (TextMath.decBytes_lt L)] at h3
          have HLt := Lib.hid HRes.out.lt
          replace HRes := Lib.hid (HRes.out.below hb)
          replace HB := Lib.hid (HB.out.trans (hb.mono HB.out.size))
          clear hb
          cases hcl : claimsOf (TextMath.decBytes L) with
          | none =>
            rw [hcl] at h3 HF
            have HN := Lib.hid (show readF (aliveN c) (nats m) (nats s) = none from HF.out)
            subst h3
            unfold zeroC
            clear hcl HF hvn
            have hb : Below w3.heap.size w3 (w3.alloc (.cells #[.string ⟨#[]⟩, .string ⟨#[]⟩, .int .i64 0, .int .i64 0, .int .i64 0, .slice none 0 0] 25)) := (Below.refl _ _).alloc (Nat.le_refl _) _
            replace HRes := Lib.hid (HRes.out.below hb)
            replace HB := Lib.hid (HB.out.trans (hb.mono HB.out.size))
            clear hb
            have c0 := HRes.out.cell (i := 0) rfl; have g0 := HRes.out.free 0; have c1 := HRes.out.cell (i := 1) rfl; have g1 := HRes.out.free 1; have c2 := HRes.out.cell (i := 2) rfl; have g2 := HRes.out.free 2; have c3 := HRes.out.cell (i := 3) rfl; have g3 := HRes.out.free 3; have c4 := HRes.out.cell (i := 4) rfl; have g4 := HRes.out.free 4; have c5 := HRes.out.cell (i := 5) rfl; have g5 := HRes.out.free 5
            go_wp2
            obtain ⟨q1, q2⟩ := put_six HRes.out (.string ⟨#[]⟩) (.string ⟨#[]⟩) (.int .i64 0) (.int .i64 0) (.int .i64 0) (.slice none 0 0)
            refine bodyPost_ret (results_cell_tmp Tryz.results13 _ _ w.heap.size 25 _ (0, 0) _ rfl q1 Tryz.underlying25 rfl (by kernel_rfl)) rfl ?_
            exact ⟨by unfold RefReadIs; rw [HN.out]; rfl, HB.out.trans (q2.below HB.out.size)⟩
          | some v =>
            rw [hcl] at h3 HF
            simp only at HF
            obtain ⟨hv1, hv2⟩ := (claimsOf_iff (TextMath.decBytes_lt L) v).1 hcl
            have hoc := claims_octs (TextMath.decBytes_lt L) hv2
            obtain ⟨dp, dc, rfl, hz⟩ := h3
            have HT := Lib.hid (fun w1 (h : Ints w1 dp (v.2.2.2.2.2.map Int.ofNat)) => refToken12 m (readCV v dp dc) w1 HM.out h (by
              have := (few_read hv1 dp dc).vec
              exact Nat.le_trans this (by decide)))
            rw [show tokText m (readCV v dp dc) = txt (tokenOf (nats m) v) by unfold tokText; rw [readCV_right, if_pos hv1, readCV_plain hoc]] at HT
            obtain ⟨TS, hTS⟩ : ∃ TS, TS = txt (tokenOf (nats m) v) := ⟨_, rfl⟩
            rw [← hTS] at HT
            have HTS := Lib.hid (show TS = s ↔ tokenOf (nats m) v = nats s by
              rw [hTS]
              constructor
              · intro h
                rw [← h, nats_txt _ (token_lt _ _)]
              · intro h
                rw [h, txt_nats])
            have hkr := key_right hv1
            obtain ⟨v1, v2, v3, v4, v5, v6⟩ := v
            replace hkr : v5 ≤ 1099511627776 := hkr
            have HLn := Lib.hid (show (v6.map Int.ofNat).length = v6.length from List.length_map ..)
            have hval : (readCV (v1, v2, v3, v4, v5, v6) dp dc).val = .agg #[.string (txt v1), .string (txt v2), .int .i64 (v3 : Int), .int .i64 (v4 : Int), .int .i64 (v5 : Int), .slice dp v6.length dc] := by simp only [readCV, ClaimsV.val, HLn.out]
            rw [hval] at HT hvn ⊢
            have HNew := Lib.hid (show ∀ a, dp = some a → w.heap.size < a.block from fun a ha => by
              have h1 := vecNew_dp hvn a ha
              have h2 := HLt.out
              omega)
            have HVal := Lib.hid hval
            have HA := Lib.hid (fun w1 => ref_alive c (v5 : Int) w1 HCc.out)
            have hb : Below w3.heap.size w3 (w3.alloc (.cells #[.string (txt v1), .string (txt v2), .int .i64 (v3 : Int), .int .i64 (v4 : Int), .int .i64 (v5 : Int), .slice dp v6.length dc] 25)) := (Below.refl _ _).alloc (Nat.le_refl _) _
            replace HRes := Lib.hid (HRes.out.below hb)
            replace HB := Lib.hid (HB.out.trans (hb.mono HB.out.size))
            have HZ := Lib.hid (show Ints (w3.alloc (.cells #[.string (txt v1), .string (txt v2), .int .i64 (v3 : Int), .int .i64 (v4 : Int), .int .i64 (v5 : Int), .slice dp v6.length dc] 25)) dp (v6.map Int.ofNat) from Ints.grown hz hb)
            have HRow := Lib.hid (show Row (w3.alloc (.cells #[.string (txt v1), .string (txt v2), .int .i64 (v3 : Int), .int .i64 (v4 : Int), .int .i64 (v5 : Int), .slice dp v6.length dc] 25)) w3.heap.size [.string (txt v1), .string (txt v2), .int .i64 (v3 : Int), .int .i64 (v4 : Int), .int .i64 (v5 : Int), .slice dp v6.length dc] 25 from Row.new w3 _ _)
            have r4 := HRow.out.cell (i := 4) rfl
            clear hcl hv1 hv2 hoc hTS hkr hval hvn hb hz
            go_wp2_with fail
            generalize w3.alloc (.cells #[.string (txt v1), .string (txt v2), .int .i64 (v3 : Int), .int .i64 (v4 : Int), .int .i64 (v5 : Int), .slice dp v6.length dc] 25) = w4 at HRes HB HZ HRow r4 ⊢
            obtain ⟨rb, hrb⟩ : ∃ rb, rb = w3.heap.size := ⟨_, rfl⟩
            rw [← hrb] at HRow r4 ⊢
            clear hrb
            refine (HA.out _).mono ?_
            rintro e w5 ⟨rfl, hw⟩
            rw [hw]
            clear hw
            cases hal : aliveB c (v5 : Int) with
            | false =>
              have HN := Lib.hid (show readF (aliveN c) (nats m) (nats s) = none by
                rw [HF.out, if_neg]
                intro h
                have : aliveB c (v5 : Int) = true := h.1
                rw [hal] at this
                cases this)
              clear hal r4
              have c0 := HRes.out.cell (i := 0) rfl; have g0 := HRes.out.free 0; have c1 := HRes.out.cell (i := 1) rfl; have g1 := HRes.out.free 1; have c2 := HRes.out.cell (i := 2) rfl; have g2 := HRes.out.free 2; have c3 := HRes.out.cell (i := 3) rfl; have g3 := HRes.out.free 3; have c4 := HRes.out.cell (i := 4) rfl; have g4 := HRes.out.free 4; have c5 := HRes.out.cell (i := 5) rfl; have g5 := HRes.out.free 5
              go_wp2
              obtain ⟨q1, q2⟩ := put_six HRes.out (.string ⟨#[]⟩) (.string ⟨#[]⟩) (.int .i64 0) (.int .i64 0) (.int .i64 0) (.slice none 0 0)
              refine bodyPost_ret (results_cell_tmp Tryz.results13 _ _ w.heap.size 25 _ (0, 0) _ rfl q1 Tryz.underlying25 rfl (by kernel_rfl)) rfl ?_
              exact ⟨by unfold RefReadIs; rw [HN.out]; rfl, HB.out.trans (q2.below HB.out.size)⟩
            | true =>
              have r0 := HRow.out.cell (i := 0) rfl; have r1 := HRow.out.cell (i := 1) rfl; have r2 := HRow.out.cell (i := 2) rfl; have r3 := HRow.out.cell (i := 3) rfl; have r5 := HRow.out.cell (i := 5) rfl
              have HAl := Lib.hid (show aliveN c (keyN (v1, v2, v3, v4, v5, v6)) = true from hal)
              clear hal
              go_wp2_with fail
              refine (HT.out w4 HZ.out).mono ?_
              rintro e w6 ⟨rfl, hb⟩
              clear r0 r1 r2 r3 r4 r5
              replace HRes := Lib.hid (HRes.out.below hb)
              replace HRow := Lib.hid (HRow.out.below hb)
              replace HZ := Lib.hid (HZ.out.grown hb)
              replace HB := Lib.hid (HB.out.trans (hb.mono HB.out.size))
              clear hb
              by_cases he : TS = s
              · have HSm := Lib.hid (show readF (aliveN c) (nats m) (nats s) = some (v1, v2, v3, v4, v5, v6) by
                  rw [HF.out, if_pos ⟨HAl.out, HTS.out.1 he⟩])
                subst he
                have r0 := HRow.out.cell (i := 0) rfl; have r1 := HRow.out.cell (i := 1) rfl; have r2 := HRow.out.cell (i := 2) rfl; have r3 := HRow.out.cell (i := 3) rfl; have r4 := HRow.out.cell (i := 4) rfl; have r5 := HRow.out.cell (i := 5) rfl
                have c0 := HRes.out.cell (i := 0) rfl; have g0 := HRes.out.free 0; have c1 := HRes.out.cell (i := 1) rfl; have g1 := HRes.out.free 1; have c2 := HRes.out.cell (i := 2) rfl; have g2 := HRes.out.free 2; have c3 := HRes.out.cell (i := 3) rfl; have g3 := HRes.out.free 3; have c4 := HRes.out.cell (i := 4) rfl; have g4 := HRes.out.free 4; have c5 := HRes.out.cell (i := 5) rfl; have g5 := HRes.out.free 5
                go_wp2
                obtain ⟨q1, q2⟩ := put_six HRes.out (.string (txt v1)) (.string (txt v2)) (.int .i64 (v3 : Int)) (.int .i64 (v4 : Int)) (.int .i64 (v5 : Int)) (.slice dp v6.length dc)
                refine bodyPost_ret (results_cell_tmp Tryz.results13 _ _ w.heap.size 25 _ (0, 0) _ rfl q1 Tryz.underlying25 rfl (by kernel_rfl)) rfl ?_
                refine ⟨?_, HB.out.trans (q2.below HB.out.size)⟩
                unfold RefReadIs
                rw [HSm.out]
                refine ⟨dp, dc, ?_, HZ.out.but q2 (fun a ha => by have := HNew.out a ha; omega)⟩
                rw [HVal.out]
                rfl
              · have HN := Lib.hid (show readF (aliveN c) (nats m) (nats s) = none by
                  rw [HF.out, if_neg]
                  exact fun h => he (HTS.out.2 h.2))
                have ht : (TS.toList == s.toList) = false := beq_eq_false_iff_ne.2 fun h => he (by
                  rw [ByteArray.toList_eq, ByteArray.toList_eq] at h
                  cases TS
                  cases s
                  simpa using h)
                clear he
                have c0 := HRes.out.cell (i := 0) rfl; have g0 := HRes.out.free 0; have c1 := HRes.out.cell (i := 1) rfl; have g1 := HRes.out.free 1; have c2 := HRes.out.cell (i := 2) rfl; have g2 := HRes.out.free 2; have c3 := HRes.out.cell (i := 3) rfl; have g3 := HRes.out.free 3; have c4 := HRes.out.cell (i := 4) rfl; have g4 := HRes.out.free 4; have c5 := HRes.out.cell (i := 5) rfl; have g5 := HRes.out.free 5
                go_wp2
                obtain ⟨q1, q2⟩ := put_six HRes.out (.string ⟨#[]⟩) (.string ⟨#[]⟩) (.int .i64 0) (.int .i64 0) (.int .i64 0) (.slice none 0 0)
                refine bodyPost_ret (results_cell_tmp Tryz.results13 _ _ w.heap.size 25 _ (0, 0) _ rfl q1 Tryz.underlying25 rfl (by kernel_rfl)) rfl ?_
                exact ⟨by unfold RefReadIs; rw [HN.out]; rfl, HB.out.trans (q2.below HB.out.size)⟩
      · have h46' : ((z : Int) != 46) = true := by rw [bne_iff_ne]; omega
        have HN := Lib.hid (show ∀ j, j < i + 1 → (nats s)[j]? ≠ some 46 by
          intro j hj
          by_cases hji : j = i
          · rw [hji, hzi]
            exact fun e => h46 (Option.some.inj e)
          · exact hn.out j (by omega))
        have hsz := HS.out
        clear hn hz hzi h46
        go_wp2
        go_roundg (s.size - (i + 1))
        case measure => omega
        case rel => exact ⟨i + 1, by omega, by go_num, HN, rfl⟩
    · obtain rfl : i = s.size := by omega
      have HN := Lib.hid (show readF (aliveN c) (nats m) (nats s) = none by
        unfold readF
        rw [dot_none (fun j hj => hn.out j (by rw [nats_len] at hj; exact hj))])
      have t1 : decide (s.size < s.size) = false := decide_eq_false (by omega)
      clear hn
      have c0 := HRes.out.cell (i := 0) rfl; have g0 := HRes.out.free 0; have c1 := HRes.out.cell (i := 1) rfl; have g1 := HRes.out.free 1; have c2 := HRes.out.cell (i := 2) rfl; have g2 := HRes.out.free 2; have c3 := HRes.out.cell (i := 3) rfl; have g3 := HRes.out.free 3; have c4 := HRes.out.cell (i := 4) rfl; have g4 := HRes.out.free 4; have c5 := HRes.out.cell (i := 5) rfl; have g5 := HRes.out.free 5
      go_wp2
      obtain ⟨q1, q2⟩ := put_six HRes.out (.string ⟨#[]⟩) (.string ⟨#[]⟩) (.int .i64 0) (.int .i64 0) (.int .i64 0) (.slice none 0 0)
      refine bodyPost_ret (results_cell_tmp Tryz.results13 _ _ w.heap.size 25 _ (0, 0) _ rfl q1 Tryz.underlying25 rfl (by kernel_rfl)) rfl ?_
      exact ⟨by unfold RefReadIs; rw [HN.out]; rfl, HB.out.trans (q2.below HB.out.size)⟩
end Go.Proofs.YtajhegjemhegiaaGreatDoor
