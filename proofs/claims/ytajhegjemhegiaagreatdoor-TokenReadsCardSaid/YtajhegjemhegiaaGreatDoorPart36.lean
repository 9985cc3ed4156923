/-
  Texts of one claim, merged.
  RefIn2: The contracts of the document's own reader of chapter 5: Text, Flag, Fault, Read. The conditions: the reader stands where it is said; texts of at most 200,000 bytes.
  RefVec: The contract of the document's own reader of chapter 5: Vec. The conditions: the reader stands where it is said; texts of at most 200,000 bytes.
  RefInText: The contract of the document's own reader of chapter 5: Text. The conditions: the reader stands where it is said; texts of at most 200,000 bytes.
-/
import Derived.Test.YtajhegjemhegiaaGreatDoorPart35
import Derived.Lib.Strings
import Derived.Test.YtajhegjemhegiaaGreatDoorPart22
namespace Go.Proofs.YtajhegjemhegiaaGreatDoor
open Go.RowKit TextNat

theorem extract_txt (s : ByteArray) (a n : Nat) : s.extract a (a + n) = txt (((nats s).drop a).take n) := by
  apply nats_inj
  have e : nats (s.extract a (a + n)) = ((nats s).drop a).take n := by
    unfold nats
    rw [Lib.extract_data]
    simp [List.map_drop, List.map_take]
  rw [e, nats_txt]
  intro b hb
  exact nats_lt s b (List.mem_of_mem_drop (List.mem_of_mem_take hb))

def faultI : Option Nat → Int
  | none => -1
  | some b => (b : Int)
set_option maxRecDepth 100000 in
theorem refFault (pb : Nat) (s : ByteArray) (st : WireMath.At) (w : World) (h : RefAt w pb s st) :
    Calls Tryz.prog 61 #[.pointer (some ⟨pb, 0, none⟩)] w fun e w' => e = .returned (.int .i64 (faultI (WireMath.faultAt (nats s) st))) ∧ ∃ n, w' = w.drewN n := by
  obtain ⟨at_, bad⟩ := st
  have c0 := h.text
  have c1 : w.cell? ⟨pb, 1, none⟩ = some (.int .i64 (at_ : Int)) := h.at_
  have c2 := h.bad
  cases bad with
  | some b =>
    have t1 : decide ((0 : Int) ≤ (b : Int)) = true := decide_eq_true (by omega)
    have c2' : w.cell? ⟨pb, 2, none⟩ = some (.int .i64 (b : Int)) := c2
    clear h c2
    go_enter Tryz.func61, Tryz.ntmps61
    go_wp2
    go_ret
    exact ⟨rfl, 0, rfl⟩
  | none =>
    have c2' : w.cell? ⟨pb, 2, none⟩ = some (.int .i64 (-1)) := c2
    have HF : WireMath.faultAt (nats s) ⟨at_, none⟩ = if at_ < s.size then some at_ else none := by unfold WireMath.faultAt; rw [nats_len]
    rw [HF]
    clear h c2 HF
    by_cases hlt : at_ < s.size
    · have t2 : decide ((at_ : Int) < (s.size : Int)) = true := decide_eq_true (by omega)
      rw [if_pos hlt]
      go_enter Tryz.func61, Tryz.ntmps61
      go_wp2
      go_quiet (fail)
      go_wp2
      go_ret
      exact ⟨rfl, _, rfl⟩
    · have t2 : decide ((at_ : Int) < (s.size : Int)) = false := decide_eq_false (by omega)
      rw [if_neg hlt]
      go_enter Tryz.func61, Tryz.ntmps61
      go_wp2
      go_quiet (fail)
      go_wp2
      go_ret
      exact ⟨rfl, _, rfl⟩

set_option maxRecDepth 100000 in
theorem refRead (s : ByteArray) (w : World) :
    Calls Tryz.prog 57 #[.string s] w fun e w' => e = .returned (.pointer (some ⟨w.heap.size, 0, none⟩)) ∧ RefAt w' w.heap.size s ⟨0, none⟩ ∧ Below w.heap.size w w' ∧ w'.heap.size = w.heap.size + 1 := by
  go_enter Tryz.func57, Tryz.ntmps57
  go_wp2
  go_ret
  refine ⟨rfl, ⟨by simp, by simp, by simp [badI], by simp, by simp⟩, (Below.refl _ _).alloc (Nat.le_refl _) _, by simp⟩
end Go.Proofs.YtajhegjemhegiaaGreatDoor
namespace Go.Proofs.YtajhegjemhegiaaGreatDoor
open Go.RowKit TextNat

set_option maxRecDepth 100000 in
set_option maxHeartbeats 4000000 in
theorem refVec (pb : Nat) (s : ByteArray) (st : WireMath.At) (w : World) (h : RefAt w pb s st) (hs : s.size ≤ 200000) (ha : st.at_ ≤ s.size) :
    Calls Tryz.prog 60 #[.pointer (some ⟨pb, 0, none⟩)] w fun e w' => (∃ pp cap, e = .returned (.slice pp (WireMath.readVec (nats s) st).1.length cap) ∧ Ints w' pp ((WireMath.readVec (nats s) st).1.map Int.ofNat) ∧ ∀ a, pp = some a → w.heap.size ≤ a.block) ∧ RefAt w' pb s (WireMath.readVec (nats s) st).2 ∧ But pb w w' := by
  obtain ⟨ii, hii, hi0, hi1, hi2⟩ := info_parts info_int
  have hpl := h.lt
  obtain ⟨at_, bad⟩ := st
  cases bad with
  | some b =>
    have hr : WireMath.readVec (nats s) ⟨at_, some b⟩ = ([], ⟨at_, some b⟩) := rfl
    rw [hr]
    have t1 : decide ((0 : Int) ≤ (b : Int)) = true := decide_eq_true (by omega)
    have c2 : w.cell? ⟨pb, 2, none⟩ = some (.int .i64 (b : Int)) := h.bad
    have HR := Lib.hid h
    clear h hr
    go_enter Tryz.func60, Tryz.ntmps60
    go_wp2
    go_ret
    exact ⟨⟨none, ⟨0, rfl⟩, (fun i z hz => by simp at hz), fun a ha => by cases ha⟩, HR.out, But.refl _ _⟩
  | none =>
    have HN := Lib.hid (refNum pb s ⟨at_, none⟩ 16 w h hs ha)
    have c1 : w.cell? ⟨pb, 1, none⟩ = some (.int .i64 (at_ : Int)) := h.at_
    have c2 : w.cell? ⟨pb, 2, none⟩ = some (.int .i64 (-1)) := h.bad
    obtain ⟨n, st1, hR1⟩ : ∃ n st1, WireMath.readNum (nats s) ⟨at_, none⟩ 16 = (n, st1) := ⟨_, _, rfl⟩
    have hn16 : (n : Int) ≤ 16 := by have := (WireMath.readNum_top (nats s) ⟨at_, none⟩ 16 (by decide) (nats_lt s) (by rw [nats_len]; exact ha)).1; rw [hR1] at this; exact this
    have ha1 : st1.at_ ≤ s.size := by have := WireMath.readNum_le (nats s) ⟨at_, none⟩ 16 (nats_lt s) (by rw [nats_len]; exact ha); rw [hR1, nats_len] at this; exact this
    rw [hR1] at HN
    have HR1 := Lib.hid hR1
    clear h hR1
    go_enter Tryz.func60, Tryz.ntmps60
    go_wp2_with (go_at_call 59; refine HN.out.mono ?_; rintro e w2 ⟨rfl, hR, hb⟩)
    have hB2 : But pb w (w2.alloc (.cells #[] 3)) := hb.alloc _
    have hR2 : RefAt (w2.alloc (.cells #[] 3)) pb s st1 := hR.below ((Below.refl _ _).alloc (Nat.le_refl _) _)
    have O1 := OwnsM.of (World.ownsRow_made (base := w.heap.size) (e := 3) (size := 1) w2 #[] 0 hb.size (by simp) (by simp))
    have H1 := Lib.hid O1
    have HR2 := Lib.hid hR2
    have HB2 := Lib.hid hB2
    have hn : n ≤ 16 := by omega
    clear hR hb hB2 hR2 O1 c1 c2 hn16
    go_loopg [5, 6] n (fun gh s5 s6 wx => ∃ (k : Nat) (D : List Nat) (stk : WireMath.At), k + gh = n ∧ s6 = .int .i64 (k : Int) ∧ OwnsM wx w.heap.size 3 s5 k (natVals .i64 D) ∧ Hid (D.length = k) ∧ Hid (WireMath.readCounts (nats s) n st1 = (D ++ (WireMath.readCounts (nats s) gh stk).1, (WireMath.readCounts (nats s) gh stk).2)) ∧ Hid (stk.at_ ≤ s.size) ∧ Hid (RefAt wx pb s stk) ∧ Hid (But pb w wx) ∧ Hid (∀ d ∈ D, d ≤ WireMath.top))
    case atStart => exact ⟨0, [], st1, by omega, by go_num, H1.out, Lib.hid rfl, Lib.hid rfl, Lib.hid ha1, HR2, HB2, Lib.hid (fun d hd => by cases hd)⟩
    case round =>
      obtain ⟨k, D, stk, hk, rfl, hown, hD, hC, hA, HR, HB, hT⟩ := hrel
      clear H1 HR2 HB2
      obtain ⟨p5, c5, rfl⟩ := hown.shape
      by_cases hkn : k < n
      · have t2 : decide ((k : Int) < (n : Int)) = true := decide_eq_true (by omega)
        have t2' : decide (k < n) = true := decide_eq_true hkn
        obtain ⟨g, rfl⟩ : ∃ g, gk = g + 1 := ⟨gk - 1, by omega⟩
        obtain ⟨z, hz⟩ : ∃ z, z = (WireMath.readNum (nats s) stk WireMath.big).1 := ⟨_, rfl⟩
        obtain ⟨stn, hstn⟩ : ∃ stn, stn = (WireMath.readNum (nats s) stk WireMath.big).2 := ⟨_, rfl⟩
        have HN2 := Lib.hid (refNum pb s stk 1099511627776 wr HR.out hs hA.out)
        have hbg : (1099511627776 : Int) = (WireMath.big : Nat) := rfl
        rw [hbg, ← hz, ← hstn, ← hbg] at HN2
        have hC2 := hC.out
        rw [WireMath.readCounts_step, ← hz, ← hstn] at hC2
        have HC := Lib.hid (show WireMath.readCounts (nats s) n st1 = ((D ++ [z]) ++ (WireMath.readCounts (nats s) g stn).1, (WireMath.readCounts (nats s) g stn).2) by rw [hC2]; simp)
        have HA := Lib.hid (show stn.at_ ≤ s.size by have := WireMath.readNum_le (nats s) stk WireMath.big (nats_lt s) (by rw [nats_len]; exact hA.out); rw [← hstn, nats_len] at this; exact this)
        have HT := Lib.hid (show ∀ d ∈ D ++ [z], d ≤ WireMath.top from fun d hd => by
          rcases List.mem_append.1 hd with h | h
          · exact hT.out d h
          · rw [List.mem_singleton.1 h, hz]
            exact (WireMath.readNum_top (nats s) stk WireMath.big (by decide) (nats_lt s) (by rw [nats_len]; exact hA.out)).2)
        have HD := Lib.hid (show (D ++ [z]).length = k + 1 by rw [List.length_append, hD.out]; rfl)
        have HO := Lib.hid hown
        clear hown hD hC hC2 hA hT hz hstn hbg
        go_wp2_with (first
          | (go_at_call 59; refine HN2.out.mono ?_; rintro e w3 ⟨rfl, hR3, hb3⟩; have HO3 := Lib.hid ((HO.out.but hb3 hpl).alloc (.cells #[.int .i64 (z : Int)] 3)); have HR3 := Lib.hid (hR3.below ((Below.refl _ _).alloc (Nat.le_refl _) (.cells #[.int .i64 (z : Int)] 3))); have HB3 := Lib.hid ((HB.out.trans hb3).alloc (.cells #[.int .i64 (z : Int)] 3)); clear hR3 hb3)
          | (at_builtin; refine wpList_append_m rfl _ _ 22 rfl w.heap.size 3 ii (.int .i64 0) 8 Tryz.underlying22 hii hi0 hi1 hi2 rfl _ _ _ rfl HO3.out ⟨_, 0, none⟩ 1 1 [.int .i64 (z : Int)] rfl rfl (one_put _ _ _ _ (by simp)) (fun u hu => by simp at hu; subst hu; rfl) (by unfold maxLen; omega) (by omega) HB3.out.size ?_; intro v2 w4 hown2 hgrow2))
        have hR4 := HR3.out.grown hgrow2 (fun q hq => by have := (HO3.out.lt q hq).1; omega)
        have hB4 := HB3.out.of_grown hgrow2 (fun q hq => (HO3.out.lt q hq).1)
        have hO4 : OwnsM w4 w.heap.size 3 v2 (k + 1) (natVals .i64 (D ++ [z])) := by rw [natVals_append]; exact hown2
        go_roundg g
        case measure => omega
        case rel => exact ⟨k + 1, D ++ [z], stn, by omega, by go_num, hO4, HD, HC, HA, Lib.hid hR4, Lib.hid hB4, HT⟩
      · obtain rfl : k = n := by omega
        obtain rfl : gk = 0 := by omega
        have t2 : decide ((k : Int) < (k : Int)) = false := decide_eq_false (by omega)
        have hCk : WireMath.readCounts (nats s) k st1 = (D, stk) := by have := hC.out; rw [this]; simp [WireMath.readCounts]
        have hInts : Ints wr p5 (D.map Int.ofNat) := fun i z hz => by
          rw [List.getElem?_map] at hz
          cases hd : D[i]? with
          | none => rw [hd] at hz; cases hz
          | some d =>
            rw [hd] at hz
            obtain rfl := Option.some.inj hz
            have h1 := hT.out d (List.mem_of_getElem? hd)
            unfold WireMath.top at h1
            have hlt : i < k := by
              rw [← hD.out]
              rcases Nat.lt_or_ge i D.length with g | g
              · exact g
              · rw [List.getElem?_eq_none g] at hd; cases hd
            obtain ⟨g, cap, hv, _, _, _, _, hcell, _⟩ := hown.open (by omega)
            have hp : p5 = some ⟨g, 0, none⟩ := by simpa using congrArg (fun v => match v with | .slice p _ _ => p | _ => none) hv
            refine ⟨?_, g, 0, hp, ?_⟩
            · show -9223372036854775808 ≤ ((d : Nat) : Int) ∧ ((d : Nat) : Int) ≤ 9223372036854775807
              omega
            · rw [Nat.zero_add, hcell i hlt, natVals_at, hd]
              rfl
        have hlen : D.length = k := hD.out
        have hR1 := HR1.out
        obtain ⟨a, bad⟩ := stk
        have c1 : wr.cell? ⟨pb, 1, none⟩ = some (.int .i64 (a : Int)) := HR.out.at_
        have g1 := HR.out.free1
        have g2 := HR.out.free2
        cases bad with
        | some b =>
          have hv : WireMath.readVec (nats s) ⟨at_, none⟩ = ([], ⟨at_, some at_⟩) := by
            unfold WireMath.readVec
            simp only [hR1, hCk]
          have c2 : wr.cell? ⟨pb, 2, none⟩ = some (.int .i64 (b : Int)) := HR.out.bad
          have t3 : decide ((0 : Int) ≤ (b : Int)) = true := decide_eq_true (by omega)
          have HV := Lib.hid hv
          clear hown hD hC hA hT hCk hR1 hInts hlen hv
          go_wp2
          go_ret
          rw [HV.out]
          exact ⟨⟨none, 0, rfl, (fun i z hz => by cases hz), fun a ha => by cases ha⟩, HR.out.setAt.setBad, (HB.out.trans (But.set pb 1 _ _)).trans (But.set pb 2 _ _)⟩
        | none =>
          have c2 : wr.cell? ⟨pb, 2, none⟩ = some (.int .i64 (-1)) := HR.out.bad
          have HTm := Lib.hid (refTrimmed (D.map Int.ofNat) p5 c5 1099511627776 wr hInts (by rw [List.length_map, hlen]; omega))
          rw [List.length_map, hlen] at HTm
          cases htr : WireMath.trimmed (D.map Int.ofNat) WireMath.big with
          | false =>
            have hv : WireMath.readVec (nats s) ⟨at_, none⟩ = ([], ⟨at_, some at_⟩) := by
              unfold WireMath.readVec
              simp only [hR1, hCk, htr]
              rfl
            rw [show (1099511627776 : Int) = (WireMath.big : Nat) from rfl, htr] at HTm
            have HV := Lib.hid hv
            clear hown hD hC hA hT hCk hR1 hInts hlen hv htr
            go_wp2_with (go_at_call 47; refine HTm.out.mono ?_; rintro e w3 ⟨rfl, rfl⟩)
            go_ret
            rw [HV.out]
            exact ⟨⟨none, 0, rfl, (fun i z hz => by cases hz), fun a ha => by cases ha⟩, HR.out.setAt.setBad, (HB.out.trans (But.set pb 1 _ _)).trans (But.set pb 2 _ _)⟩
          | true =>
            have hv : WireMath.readVec (nats s) ⟨at_, none⟩ = (D, ⟨a, none⟩) := by
              unfold WireMath.readVec
              simp only [hR1, hCk, htr]
              rfl
            rw [show (1099511627776 : Int) = (WireMath.big : Nat) from rfl, htr] at HTm
            have HV := Lib.hid hv
            have HL := Lib.hid hlen
            have HI := Lib.hid hInts
            have HBk := Lib.hid (show ∀ a, p5 = some a → w.heap.size ≤ a.block from fun a ha => (hown.lt a.block (by rw [ha]; rfl)).1)
            clear hown hD hC hA hT hCk hR1 hInts hlen hv htr
            go_wp2_with (go_at_call 47; refine HTm.out.mono ?_; rintro e w3 ⟨rfl, rfl⟩)
            go_ret
            rw [HV.out]
            exact ⟨⟨p5, c5, by rw [HL.out]; rfl, HI.out, HBk.out⟩, HR.out, HB.out⟩
end Go.Proofs.YtajhegjemhegiaaGreatDoor
namespace Go.Proofs.YtajhegjemhegiaaGreatDoor
open Go.RowKit TextNat

set_option maxRecDepth 100000 in
set_option maxHeartbeats 4000000 in
theorem refText (pb : Nat) (s : ByteArray) (st : WireMath.At) (most : Int) (w : World) (h : RefAt w pb s st) (hs : s.size ≤ 200000) (ha : st.at_ ≤ s.size) :
    Calls Tryz.prog 58 #[.pointer (some ⟨pb, 0, none⟩), .int .i64 most] w fun e w' => e = .returned (.string (txt (WireMath.readText (nats s) st most).1)) ∧ RefAt w' pb s (WireMath.readText (nats s) st most).2 ∧ But pb w w' := by
  have HN := Lib.hid (refNum pb s st most w h hs ha)
  obtain ⟨at_, bad⟩ := st
  have c1 : w.cell? ⟨pb, 1, none⟩ = some (.int .i64 (at_ : Int)) := h.at_
  cases bad with
  | some b =>
    have hr : WireMath.readNum (nats s) ⟨at_, some b⟩ most = (0, ⟨at_, some b⟩) := rfl
    rw [hr] at HN
    have ht : WireMath.readText (nats s) ⟨at_, some b⟩ most = ([], ⟨at_, some b⟩) := rfl
    rw [ht]
    have t1 : decide ((0 : Int) ≤ (b : Int)) = true := decide_eq_true (by omega)
    clear h hr ht
    go_enter Tryz.func58, Tryz.ntmps58
    go_wp2_with (go_at_call 59; refine HN.out.mono ?_; rintro e w2 ⟨rfl, hR, hb⟩; have c2 : w2.cell? ⟨pb, 2, none⟩ = some (.int .i64 (b : Int)) := hR.bad)
    go_ret
    exact ⟨rfl, hR, hb⟩
  | none =>
    simp only at ha
    rcases WireMath.readNum_cases (nats s) at_ most (nats_lt s) (by rw [nats_len]; exact ha) with ⟨v, k, hr, hk, hv, _⟩ | hr
    · rw [hr] at HN
      rw [nats_len] at hk
      unfold WireMath.top at hv
      obtain ⟨a2, ha2⟩ : ∃ a2, a2 = at_ + k := ⟨_, rfl⟩
      rw [← ha2] at HN hk hr
      by_cases hf : s.size < a2 + v
      · have ht : WireMath.readText (nats s) ⟨at_, none⟩ most = ([], ⟨at_, some at_⟩) := by unfold WireMath.readText; simp only [hr, nats_len]; rw [if_pos hf]
        rw [ht]
        have t2 : decide ((s.size : Int) - (a2 : Int) < (v : Int)) = true := decide_eq_true (by omega)
        clear h hr ht ha2
        go_enter Tryz.func58, Tryz.ntmps58
        go_wp2_with (go_at_call 59; refine HN.out.mono ?_; rintro e w2 ⟨rfl, hR, hb⟩; have c2 : w2.cell? ⟨pb, 2, none⟩ = some (.int .i64 (-1)) := hR.bad; have c1' : w2.cell? ⟨pb, 1, none⟩ = some (.int .i64 (a2 : Int)) := hR.at_; have c0 := hR.text; have HR := Lib.hid hR; have HB := Lib.hid hb; clear hR hb c1)
        go_quiet (fail)
        obtain ⟨wa, hwa⟩ : ∃ wa, wa = w2.drewN nq := ⟨_, rfl⟩
        have HRa := Lib.hid (show RefAt wa pb s ⟨a2, none⟩ by rw [hwa]; exact HR.out.drewN _)
        have HBa := Lib.hid (show But pb w wa by rw [hwa]; exact HB.out.drewN _)
        have c0a := HRa.out.text
        have c1a : wa.cell? ⟨pb, 1, none⟩ = some (.int .i64 (a2 : Int)) := HRa.out.at_
        have c2a : wa.cell? ⟨pb, 2, none⟩ = some (.int .i64 (-1)) := HRa.out.bad
        have g1 := HRa.out.free1
        have g2 := HRa.out.free2
        rw [← hwa]
        clear hwa HR HB c0 c1' c2
        go_wp2
        go_ret
        exact ⟨rfl, HRa.out.setAt.setBad, (HBa.out.trans (But.set pb 1 wa _)).trans (But.set pb 2 _ _)⟩
      · have ht : WireMath.readText (nats s) ⟨at_, none⟩ most = (((nats s).drop a2).take v, ⟨a2 + v, none⟩) := by unfold WireMath.readText; simp only [hr, nats_len]; rw [if_neg hf]
        rw [ht, ← extract_txt]
        have t2 : decide ((s.size : Int) - (a2 : Int) < (v : Int)) = false := decide_eq_false (by omega)
        clear h hr ht ha2
        go_enter Tryz.func58, Tryz.ntmps58
        go_wp2_with (go_at_call 59; refine HN.out.mono ?_; rintro e w2 ⟨rfl, hR, hb⟩; have c2 : w2.cell? ⟨pb, 2, none⟩ = some (.int .i64 (-1)) := hR.bad; have c1' : w2.cell? ⟨pb, 1, none⟩ = some (.int .i64 (a2 : Int)) := hR.at_; have c0 := hR.text; have HR := Lib.hid hR; have HB := Lib.hid hb; clear hR hb c1)
        go_quiet (fail)
        obtain ⟨wa, hwa⟩ : ∃ wa, wa = w2.drewN nq := ⟨_, rfl⟩
        have HRa := Lib.hid (show RefAt wa pb s ⟨a2, none⟩ by rw [hwa]; exact HR.out.drewN _)
        have HBa := Lib.hid (show But pb w wa by rw [hwa]; exact HB.out.drewN _)
        have c0a := HRa.out.text
        have c1a : wa.cell? ⟨pb, 1, none⟩ = some (.int .i64 (a2 : Int)) := HRa.out.at_
        have c2a : wa.cell? ⟨pb, 2, none⟩ = some (.int .i64 (-1)) := HRa.out.bad
        have g1 := HRa.out.free1
        have g2 := HRa.out.free2
        rw [← hwa]
        clear hwa HR HB c0 c1' c2
        obtain ⟨a3, ha3⟩ : ∃ a3, a3 = a2 + v := ⟨_, rfl⟩
        go_wp2
        have h3 : (a2 : Int) + (v : Int) = (a3 : Int) := by omega
        obtain ⟨wb, hwb⟩ : ∃ wb, wb = wa.setCell ⟨pb, 1, none⟩ (.int .i64 ((a2 : Int) + (v : Int))) := ⟨_, rfl⟩
        have HRb := Lib.hid (show RefAt wb pb s ⟨a3, none⟩ by rw [hwb, h3]; exact HRa.out.setAt)
        have HBb := Lib.hid (show But pb w wb by rw [hwb]; exact HBa.out.trans (But.set pb 1 wa _))
        have c0b := HRb.out.text
        have c1b : wb.cell? ⟨pb, 1, none⟩ = some (.int .i64 (a3 : Int)) := HRb.out.at_
        rw [← hwb]
        clear hwb h3 HRa HBa c0a c1a c2a g1 g2
        have e1 : (a3 : Int) - (v : Int) = (a2 : Int) := by omega
        have e2 : wrap64 ((a3 : Int) - (v : Int)) = (a2 : Int) := by unfold wrap64; omega
        have e3 : a2 ≤ a3 := by omega
        have e4 : a3 ≤ s.size := by omega
        have HA3 := Lib.hid ha3
        clear ha3
        go_quiet (fail)
        go_wp2
        go_ret
        rw [← HA3.out]
        exact ⟨rfl, HRb.out.drewN _, HBb.out.drewN _⟩
    · have ht : WireMath.readText (nats s) ⟨at_, none⟩ most = ([], ⟨at_, some at_⟩) := by unfold WireMath.readText; simp only [hr]
      rw [hr] at HN
      rw [ht]
      have t1 : decide ((0 : Int) ≤ (at_ : Int)) = true := decide_eq_true (by omega)
      clear h hr ht
      go_enter Tryz.func58, Tryz.ntmps58
      go_wp2_with (go_at_call 59; refine HN.out.mono ?_; rintro e w2 ⟨rfl, hR, hb⟩; have c2 : w2.cell? ⟨pb, 2, none⟩ = some (.int .i64 (at_ : Int)) := hR.bad)
      go_ret
      exact ⟨rfl, hR, hb⟩
end Go.Proofs.YtajhegjemhegiaaGreatDoor
