/-
  The contract of the document's own reader of chapter 5: Vec. The conditions: the reader stands where it is said; texts of at most 200,000 bytes.
-/
import Derived.Test.YtpmhfoleafjlbaaDoorRefIn2
import Derived.Test.YtpmhfoleafjlbaaDoorRefTrimmed
namespace Go.Proofs.YtpmhfoleafjlbaaDoor
open Go.RowKit TextNat

set_option maxRecDepth 100000 in
set_option maxHeartbeats 4000000 in
theorem refVec (pb : Nat) (s : ByteArray) (st : WireMath.At) (w : World) (h : RefAt w pb s st) (hs : s.size ≤ 200000) (ha : st.at_ ≤ s.size) :
    Calls Tryd.prog 24 #[.pointer (some ⟨pb, 0, none⟩)] w fun e w' => (∃ pp cap, e = .returned (.slice pp (WireMath.readVec (nats s) st).1.length cap) ∧ Ints w' pp ((WireMath.readVec (nats s) st).1.map Int.ofNat) ∧ ∀ a, pp = some a → w.heap.size ≤ a.block) ∧ RefAt w' pb s (WireMath.readVec (nats s) st).2 ∧ But pb w w' := by
  obtain ⟨ii, hii, hi0, hi1, hi2⟩ := info_parts info_int
  have hpl := h.lt
  obtain ⟨at_, bad⟩ := st
  cases bad with
  | some b =>
    have hr : WireMath.readVec (nats s) ⟨at_, some b⟩ = ([], ⟨at_, some b⟩) := rfl
    rw [hr]
    have t1 : decide ((0 : Int) ≤ (b : Int)) = true := decide_eq_true (by omega)
    have c2 : w.cell? ⟨pb, 2, none⟩ = some (.int .i64 (b : Int)) := h.bad
    have HR := Lib.hid h
    clear h hr
    go_enter Tryd.func24, Tryd.ntmps24
    go_wp2
    go_ret
    exact ⟨⟨none, ⟨0, rfl⟩, (fun i z hz => by simp at hz), fun a ha => by cases ha⟩, HR.out, But.refl _ _⟩
  | none =>
    have HN := Lib.hid (refNum pb s ⟨at_, none⟩ 16 w h hs ha)
    have c1 : w.cell? ⟨pb, 1, none⟩ = some (.int .i64 (at_ : Int)) := h.at_
    have c2 : w.cell? ⟨pb, 2, none⟩ = some (.int .i64 (-1)) := h.bad
    obtain ⟨n, st1, hR1⟩ : ∃ n st1, WireMath.readNum (nats s) ⟨at_, none⟩ 16 = (n, st1) := ⟨_, _, rfl⟩
    have hn16 : (n : Int) ≤ 16 := by have := (WireMath.readNum_top (nats s) ⟨at_, none⟩ 16 (by decide) (nats_lt s) (by rw [nats_len]; exact ha)).1; rw [hR1] at this; exact this
    have ha1 : st1.at_ ≤ s.size := by have := WireMath.readNum_le (nats s) ⟨at_, none⟩ 16 (nats_lt s) (by rw [nats_len]; exact ha); rw [hR1, nats_len] at this; exact this
    rw [hR1] at HN
    have HR1 := Lib.hid hR1
    clear h hR1
    go_enter Tryd.func24, Tryd.ntmps24
    go_wp2_with (go_at_call 26; refine HN.out.mono ?_; rintro e w2 ⟨rfl, hR, hb⟩)
    have hB2 : But pb w (w2.alloc (.cells #[] 3)) := hb.alloc _
    have hR2 : RefAt (w2.alloc (.cells #[] 3)) pb s st1 := hR.below ((Below.refl _ _).alloc (Nat.le_refl _) _)
    have O1 := OwnsM.of (World.ownsRow_made (base := w.heap.size) (e := 3) (size := 1) w2 #[] 0 hb.size (by simp) (by simp))
    have H1 := Lib.hid O1
    have HR2 := Lib.hid hR2
    have HB2 := Lib.hid hB2
    have hn : n ≤ 16 := by omega
    clear hR hb hB2 hR2 O1 c1 c2 hn16
    go_loopg [5, 6] n (fun gh s5 s6 wx => ∃ (k : Nat) (D : List Nat) (stk : WireMath.At), k + gh = n ∧ s6 = .int .i64 (k : Int) ∧ OwnsM wx w.heap.size 3 s5 k (natVals .i64 D) ∧ Hid (D.length = k) ∧ Hid (WireMath.readCounts (nats s) n st1 = (D ++ (WireMath.readCounts (nats s) gh stk).1, (WireMath.readCounts (nats s) gh stk).2)) ∧ Hid (stk.at_ ≤ s.size) ∧ Hid (RefAt wx pb s stk) ∧ Hid (But pb w wx) ∧ Hid (∀ d ∈ D, d ≤ WireMath.top))
    case atStart => exact ⟨0, [], st1, by omega, by go_num, H1.out, Lib.hid rfl, Lib.hid rfl, Lib.hid ha1, HR2, HB2, Lib.hid (fun d hd => by cases hd)⟩
    case round =>
      obtain ⟨k, D, stk, hk, rfl, hown, hD, hC, hA, HR, HB, hT⟩ := hrel
      clear H1 HR2 HB2
      obtain ⟨p5, c5, rfl⟩ := hown.shape
      by_cases hkn : k < n
      · have t2 : decide ((k : Int) < (n : Int)) = true := decide_eq_true (by omega)
        have t2' : decide (k < n) = true := decide_eq_true hkn
        obtain ⟨g, rfl⟩ : ∃ g, gk = g + 1 := ⟨gk - 1, by omega⟩
        obtain ⟨z, hz⟩ : ∃ z, z = (WireMath.readNum (nats s) stk WireMath.big).1 := ⟨_, rfl⟩
        obtain ⟨stn, hstn⟩ : ∃ stn, stn = (WireMath.readNum (nats s) stk WireMath.big).2 := ⟨_, rfl⟩
        have HN2 := Lib.hid (refNum pb s stk 1099511627776 wr HR.out hs hA.out)
        have hbg : (1099511627776 : Int) = (WireMath.big : Nat) := rfl
        rw [hbg, ← hz, ← hstn, ← hbg] at HN2
        have hC2 := hC.out
        rw [WireMath.readCounts_step, ← hz, ← hstn] at hC2
        have HC := Lib.hid (show WireMath.readCounts (nats s) n st1 = ((D ++ [z]) ++ (WireMath.readCounts (nats s) g stn).1, (WireMath.readCounts (nats s) g stn).2) by rw [hC2]; simp)
        have HA := Lib.hid (show stn.at_ ≤ s.size by have := WireMath.readNum_le (nats s) stk WireMath.big (nats_lt s) (by rw [nats_len]; exact hA.out); rw [← hstn, nats_len] at this; exact this)
        have HT := Lib.hid (show ∀ d ∈ D ++ [z], d ≤ WireMath.top from fun d hd => by
          rcases List.mem_append.1 hd with h | h
          · exact hT.out d h
          · rw [List.mem_singleton.1 h, hz]
            exact (WireMath.readNum_top (nats s) stk WireMath.big (by decide) (nats_lt s) (by rw [nats_len]; exact hA.out)).2)
        have HD := Lib.hid (show (D ++ [z]).length = k + 1 by rw [List.length_append, hD.out]; rfl)
        have HO := Lib.hid hown
        clear hown hD hC hC2 hA hT hz hstn hbg
        go_wp2_with (first
          | (go_at_call 26; refine HN2.out.mono ?_; rintro e w3 ⟨rfl, hR3, hb3⟩; have HO3 := Lib.hid ((HO.out.but hb3 hpl).alloc (.cells #[.int .i64 (z : Int)] 3)); have HR3 := Lib.hid (hR3.below ((Below.refl _ _).alloc (Nat.le_refl _) (.cells #[.int .i64 (z : Int)] 3))); have HB3 := Lib.hid ((HB.out.trans hb3).alloc (.cells #[.int .i64 (z : Int)] 3)); clear hR3 hb3)
          | (at_builtin; refine wpList_append_m rfl _ _ 51 rfl w.heap.size 3 ii (.int .i64 0) 8 Tryd.underlying51 hii hi0 hi1 hi2 rfl _ _ _ rfl HO3.out ⟨_, 0, none⟩ 1 1 [.int .i64 (z : Int)] rfl rfl (one_put _ _ _ _ (by simp)) (fun u hu => by simp at hu; subst hu; rfl) (by unfold maxLen; omega) (by omega) HB3.out.size ?_; intro v2 w4 hown2 hgrow2))
        have hR4 := HR3.out.grown hgrow2 (fun q hq => by have := (HO3.out.lt q hq).1; omega)
        have hB4 := HB3.out.of_grown hgrow2 (fun q hq => (HO3.out.lt q hq).1)
        have hO4 : OwnsM w4 w.heap.size 3 v2 (k + 1) (natVals .i64 (D ++ [z])) := by rw [natVals_append]; exact hown2
        go_roundg g
        case measure => omega
        case rel => exact ⟨k + 1, D ++ [z], stn, by omega, by go_num, hO4, HD, HC, HA, Lib.hid hR4, Lib.hid hB4, HT⟩
      · obtain rfl : k = n := by omega
        obtain rfl : gk = 0 := by omega
        have t2 : decide ((k : Int) < (k : Int)) = false := decide_eq_false (by omega)
        have hCk : WireMath.readCounts (nats s) k st1 = (D, stk) := by have := hC.out; rw [this]; simp [WireMath.readCounts]
        have hInts : Ints wr p5 (D.map Int.ofNat) := fun i z hz => by
          rw [List.getElem?_map] at hz
          cases hd : D[i]? with
          | none => rw [hd] at hz; cases hz
          | some d =>
            rw [hd] at hz
            obtain rfl := Option.some.inj hz
            have h1 := hT.out d (List.mem_of_getElem? hd)
            unfold WireMath.top at h1
            have hlt : i < k := by
              rw [← hD.out]
              rcases Nat.lt_or_ge i D.length with g | g
              · exact g
              · rw [List.getElem?_eq_none g] at hd; cases hd
            obtain ⟨g, cap, hv, _, _, _, _, hcell, _⟩ := hown.open (by omega)
            have hp : p5 = some ⟨g, 0, none⟩ := by simpa using congrArg (fun v => match v with | .slice p _ _ => p | _ => none) hv
            refine ⟨?_, g, 0, hp, ?_⟩
            · show -9223372036854775808 ≤ ((d : Nat) : Int) ∧ ((d : Nat) : Int) ≤ 9223372036854775807
              omega
            · rw [Nat.zero_add, hcell i hlt, natVals_at, hd]
              rfl
        have hlen : D.length = k := hD.out
        have hR1 := HR1.out
        obtain ⟨a, bad⟩ := stk
        have c1 : wr.cell? ⟨pb, 1, none⟩ = some (.int .i64 (a : Int)) := HR.out.at_
        have g1 := HR.out.free1
        have g2 := HR.out.free2
        cases bad with
        | some b =>
          have hv : WireMath.readVec (nats s) ⟨at_, none⟩ = ([], ⟨at_, some at_⟩) := by
            unfold WireMath.readVec
            simp only [hR1, hCk]
          have c2 : wr.cell? ⟨pb, 2, none⟩ = some (.int .i64 (b : Int)) := HR.out.bad
          have t3 : decide ((0 : Int) ≤ (b : Int)) = true := decide_eq_true (by omega)
          have HV := Lib.hid hv
          clear hown hD hC hA hT hCk hR1 hInts hlen hv
          go_wp2
          go_ret
          rw [HV.out]
          exact ⟨⟨none, 0, rfl, (fun i z hz => by cases hz), fun a ha => by cases ha⟩, HR.out.setAt.setBad, (HB.out.trans (But.set pb 1 _ _)).trans (But.set pb 2 _ _)⟩
        | none =>
          have c2 : wr.cell? ⟨pb, 2, none⟩ = some (.int .i64 (-1)) := HR.out.bad
          have HTm := Lib.hid (refTrimmed (D.map Int.ofNat) p5 c5 1099511627776 wr hInts (by rw [List.length_map, hlen]; omega))
          rw [List.length_map, hlen] at HTm
          cases htr : WireMath.trimmed (D.map Int.ofNat) WireMath.big with
          | false =>
            have hv : WireMath.readVec (nats s) ⟨at_, none⟩ = ([], ⟨at_, some at_⟩) := by
              unfold WireMath.readVec
              simp only [hR1, hCk, htr]
              rfl
            rw [show (1099511627776 : Int) = (WireMath.big : Nat) from rfl, htr] at HTm
            have HV := Lib.hid hv
            clear hown hD hC hA hT hCk hR1 hInts hlen hv htr
            go_wp2_with (go_at_call 40; refine HTm.out.mono ?_; rintro e w3 ⟨rfl, rfl⟩)
            go_ret
            rw [HV.out]
            exact ⟨⟨none, 0, rfl, (fun i z hz => by cases hz), fun a ha => by cases ha⟩, HR.out.setAt.setBad, (HB.out.trans (But.set pb 1 _ _)).trans (But.set pb 2 _ _)⟩
          | true =>
            have hv : WireMath.readVec (nats s) ⟨at_, none⟩ = (D, ⟨a, none⟩) := by
              unfold WireMath.readVec
              simp only [hR1, hCk, htr]
              rfl
            rw [show (1099511627776 : Int) = (WireMath.big : Nat) from rfl, htr] at HTm
            have HV := Lib.hid hv
            have HL := Lib.hid hlen
            have HI := Lib.hid hInts
            have HBk := Lib.hid (show ∀ a, p5 = some a → w.heap.size ≤ a.block from fun a ha => (hown.lt a.block (by rw [ha]; rfl)).1)
            clear hown hD hC hA hT hCk hR1 hInts hlen hv htr
            go_wp2_with (go_at_call 40; refine HTm.out.mono ?_; rintro e w3 ⟨rfl, rfl⟩)
            go_ret
            rw [HV.out]
            exact ⟨⟨p5, c5, by rw [HL.out]; rfl, HI.out, HBk.out⟩, HR.out, HB.out⟩
end Go.Proofs.YtpmhfoleafjlbaaDoor
