/-
  Texts of one claim, merged.
  WireInFlag: The contract of the program's In of chapter 5: Flag. The conditions: what came in lies in memory.
  WireInEnd: The contract of the program's In of chapter 5: End. The conditions: what came in lies in memory.
  WireInVec: The contracts of the program's Vec and End of an In of chapter 5. The conditions: the reader stands where it is said; texts of at most 200,000 bytes.
-/
import Derived.Test.YtajhegjemhegiaaDoorWireIn
import Derived.Test.YtajhegjemhegiaaDoorPart06
import Derived.Test.YtajhegjemhegiaaDoorPart14
import Derived.Test.YtajhegjemhegiaaDoorPart15
namespace Go.Proofs.YtajhegjemhegiaaDoor
open Go.RowKit TextNat

end Go.Proofs.YtajhegjemhegiaaDoor
namespace Go.Proofs.YtajhegjemhegiaaDoor
open Go.RowKit TextNat

theorem below_drew_n (B : Nat) (w : World) (n : Nat) : Below B w (w.drewN n) := ⟨rfl, rfl, rfl, Nat.le_refl _, fun _ _ => rfl⟩
theorem readText_le (l : List Nat) (st : WireMath.At) (most : Int) (_hl : ∀ b ∈ l, b < 256) (ha : st.at_ ≤ l.length) : (WireMath.readText l st most).2.at_ ≤ l.length := by
  obtain ⟨a, bad⟩ := st
  cases bad with
  | some b => exact ha
  | none =>
    unfold WireMath.readText
    simp only
    cases hb : (WireMath.readNum l ⟨a, none⟩ most).2.bad with
    | some b => exact ha
    | none =>
      simp only
      split
      · exact ha
      · simp only; omega
/-- What End answers. -/
def EndIs (w : World) (s : ByteArray) (st : WireMath.At) (e : Ending) : Prop :=
  match WireMath.faultAt (nats s) st with
  | none => e = .returned .nilIface
  | some k => ∃ r, e = .returned r ∧ Chain w.heap.size w [(⟨#[119, 105, 114, 101]⟩, (k : Int))] (.iface 40 (.int .i64 (2 : Int))) r
set_option maxRecDepth 100000 in
set_option maxHeartbeats 4000000 in
theorem inEnd_ok (pb : Nat) (s : ByteArray) (st : WireMath.At) (w : World) (h : InAt w pb s st) :
    Calls Tryd.prog 57 #[.pointer (some ⟨pb, 0, none⟩)] w fun e w' => EndIs w' s st e ∧ Below w.heap.size w w' := by
  obtain ⟨at_, bad⟩ := st
  have c0 := h.text
  have c1 : w.cell? ⟨pb, 1, none⟩ = some (.int .i64 (at_ : Int)) := h.at_
  have c2 := h.fault
  have HA := Lib.hid (fun w1 => at_chain ⟨#[119, 105, 114, 101]⟩ (at_ : Int) [] (2 : Int) (.iface 40 (.int .i64 (2 : Int))) w1 rfl)
  cases bad with
  | some b =>
    have hba : b = at_ := h.wf b rfl
    have c2' : w.cell? ⟨pb, 2, none⟩ = some (.bool true) := c2
    have HF := Lib.hid (show WireMath.faultAt (nats s) ⟨at_, some b⟩ = some at_ by unfold WireMath.faultAt; rw [hba])
    clear h c2 hba
    go_enter Tryd.func57, Tryd.ntmps57
    go_wp2
    go_quiet (fail)
    obtain ⟨wa, hwa⟩ : ∃ wa, wa = w.drewN nq := ⟨_, rfl⟩
    have hBa : Below w.heap.size w wa := by rw [hwa]; exact below_drew_n _ _ _
    have x1 : wa.cell? ⟨pb, 1, none⟩ = some (.int .i64 (at_ : Int)) := by rw [hwa]; exact c1
    rw [← hwa]
    have HBa := Lib.hid hBa
    clear hwa hBa
    go_wp2_with (go_at_call 17; refine (HA.out _).mono ?_; rintro e w2 ⟨r, rfl, hc, hb⟩)
    go_ret
    exact ⟨by unfold EndIs; rw [HF.out]; exact ⟨r, rfl, hc⟩, HBa.out.trans (hb.mono HBa.out.size)⟩
  | none =>
    have c2' : w.cell? ⟨pb, 2, none⟩ = some (.bool false) := c2
    by_cases hlt : at_ < s.size
    · have HF := Lib.hid (show WireMath.faultAt (nats s) ⟨at_, none⟩ = some at_ by unfold WireMath.faultAt; simp only [nats_len]; rw [if_pos hlt])
      have t1 : decide ((at_ : Int) < (s.size : Int)) = true := decide_eq_true (by omega)
      have t1' : decide (at_ < s.size) = true := decide_eq_true hlt
      clear h c2
      go_enter Tryd.func57, Tryd.ntmps57
      go_wp2
      go_quiet (fail)
      obtain ⟨wa, hwa⟩ : ∃ wa, wa = w.drewN nq := ⟨_, rfl⟩
      have hBa : Below w.heap.size w wa := by rw [hwa]; exact below_drew_n _ _ _
      have x1 : wa.cell? ⟨pb, 1, none⟩ = some (.int .i64 (at_ : Int)) := by rw [hwa]; exact c1
      rw [← hwa]
      have HBa := Lib.hid hBa
      clear hwa hBa
      go_wp2_with (go_at_call 17; refine (HA.out _).mono ?_; rintro e w2 ⟨r, rfl, hc, hb⟩)
      go_ret
      exact ⟨by unfold EndIs; rw [HF.out]; exact ⟨r, rfl, hc⟩, HBa.out.trans (hb.mono HBa.out.size)⟩
    · have HF := Lib.hid (show WireMath.faultAt (nats s) ⟨at_, none⟩ = none by unfold WireMath.faultAt; simp only [nats_len]; rw [if_neg hlt])
      have t1 : decide ((at_ : Int) < (s.size : Int)) = false := decide_eq_false (by omega)
      have t1' : decide (at_ < s.size) = false := decide_eq_false hlt
      clear h c2
      go_enter Tryd.func57, Tryd.ntmps57
      go_wp2
      go_quiet (fail)
      go_wp2
      go_ret
      exact ⟨by unfold EndIs; rw [HF.out]; rfl, below_drew_n _ _ _⟩
end Go.Proofs.YtajhegjemhegiaaDoor
namespace Go.Proofs.YtajhegjemhegiaaDoor
open Go.RowKit TextNat

theorem InAt.grown {w w' : World} {pb : Nat} {s : ByteArray} {st : WireMath.At} {row : Option Nat} (h : InAt w pb s st) (hg : w.grownBy w' row) (hr : ∀ q, row = some q → pb < q) : InAt w' pb s st := by
  have hk : w'.heap[pb]? = w.heap[pb]? := hg.block pb h.lt (fun e => by have := hr pb e.symm; omega)
  exact ⟨(World.cell?_of_block (w := w) (a := ⟨pb, 0, none⟩) hk).trans h.text, (World.cell?_of_block (w := w) (a := ⟨pb, 1, none⟩) hk).trans h.at_, (World.cell?_of_block (w := w) (a := ⟨pb, 2, none⟩) hk).trans h.fault, (World.frozen?_of_block (w := w) (a := ⟨pb, 1, none⟩) hk).trans h.free1, (World.frozen?_of_block (w := w) (a := ⟨pb, 2, none⟩) hk).trans h.free2, h.wf⟩

set_option maxRecDepth 100000 in
set_option maxHeartbeats 4000000 in
theorem inVec_ok (pb : Nat) (s : ByteArray) (st : WireMath.At) (w : World) (h : InAt w pb s st) (hs : s.size ≤ 140737488355328) (ha : st.at_ ≤ s.size) :
    Calls Tryd.prog 56 #[.pointer (some ⟨pb, 0, none⟩)] w fun e w' => (∃ pp cap, e = .returned (.slice pp (WireMath.readVec (nats s) st).1.length cap) ∧ Ints w' pp ((WireMath.readVec (nats s) st).1.map Int.ofNat) ∧ ∀ a, pp = some a → w.heap.size ≤ a.block) ∧ InAt w' pb s (WireMath.readVec (nats s) st).2 ∧ But pb w w' := by
  obtain ⟨ii, hii, hi0, hi1, hi2⟩ := info_parts info_int
  have hpl := h.lt
  obtain ⟨at_, bad⟩ := st
  cases bad with
  | some b =>
    have hr : WireMath.readVec (nats s) ⟨at_, some b⟩ = ([], ⟨at_, some b⟩) := rfl
    rw [hr]
    have c2 : w.cell? ⟨pb, 2, none⟩ = some (.bool true) := h.fault
    have HR := Lib.hid h
    clear h hr
    go_enter Tryd.func56, Tryd.ntmps56
    go_wp2
    go_ret
    exact ⟨⟨none, ⟨0, rfl⟩, (fun i z hz => by simp at hz), fun a ha => by cases ha⟩, HR.out, But.refl _ _⟩
  | none =>
    have HN := Lib.hid (inNum_ok pb s ⟨at_, none⟩ 16 w h hs ha)
    have c1 : w.cell? ⟨pb, 1, none⟩ = some (.int .i64 (at_ : Int)) := h.at_
    have c2 : w.cell? ⟨pb, 2, none⟩ = some (.bool false) := h.fault
    obtain ⟨n, st1, hR1⟩ : ∃ n st1, WireMath.readNum (nats s) ⟨at_, none⟩ 16 = (n, st1) := ⟨_, _, rfl⟩
    have hn16 : (n : Int) ≤ 16 := by have := (WireMath.readNum_top (nats s) ⟨at_, none⟩ 16 (by decide) (nats_lt s) (by rw [nats_len]; exact ha)).1; rw [hR1] at this; exact this
    have ha1 : st1.at_ ≤ s.size := by have := WireMath.readNum_le (nats s) ⟨at_, none⟩ 16 (nats_lt s) (by rw [nats_len]; exact ha); rw [hR1, nats_len] at this; exact this
    rw [hR1] at HN
    have HR1 := Lib.hid hR1
    clear h hR1
    go_enter Tryd.func56, Tryd.ntmps56
    go_wp2_with (go_at_call 55; refine HN.out.mono ?_; rintro e w2 ⟨rfl, hR, hb⟩)
    have HRf := Lib.hid (fun w1 st1 (h1 : InAt w1 pb s st1) => inRefuse_ok pb at_ s st1 w1 h1)
    have O1 : OwnsM w2 w.heap.size 3 (.slice none 0 0) 0 [] := ⟨rfl, .inl ⟨rfl, rfl⟩⟩
    have H1 := Lib.hid O1
    have HR2 := Lib.hid hR
    have HB2 := Lib.hid hb
    have hn : n ≤ 16 := by omega
    clear hR hb O1 c1 c2 hn16
    go_loopg [4, 19] n (fun gh s4 s19 wx => ∃ (k : Nat) (D : List Nat) (stk : WireMath.At), k + gh = n ∧ s19 = .int .i64 (k : Int) ∧ OwnsM wx w.heap.size 3 s4 k (natVals .i64 D) ∧ Hid (D.length = k) ∧ Hid (WireMath.readCounts (nats s) n st1 = (D ++ (WireMath.readCounts (nats s) gh stk).1, (WireMath.readCounts (nats s) gh stk).2)) ∧ Hid (stk.at_ ≤ s.size) ∧ Hid (InAt wx pb s stk) ∧ Hid (But pb w wx) ∧ Hid (∀ d ∈ D, d ≤ WireMath.big))
    case atStart => exact ⟨0, [], st1, by omega, by go_num, H1.out, Lib.hid rfl, Lib.hid rfl, Lib.hid ha1, HR2, HB2, Lib.hid (fun d hd => by cases hd)⟩
    case round =>
      obtain ⟨k, D, stk, hk, rfl, hown, hD, hC, hA, HR, HB, hT⟩ := hrel
      clear H1 HR2 HB2
      obtain ⟨p5, c5, rfl⟩ := hown.shape
      by_cases hkn : k < n
      · have t2 : decide ((k : Int) < (n : Int)) = true := decide_eq_true (by omega)
        have t2' : decide (k < n) = true := decide_eq_true hkn
        obtain ⟨g, rfl⟩ : ∃ g, gk = g + 1 := ⟨gk - 1, by omega⟩
        obtain ⟨z, hz⟩ : ∃ z, z = (WireMath.readNum (nats s) stk WireMath.big).1 := ⟨_, rfl⟩
        obtain ⟨stn, hstn⟩ : ∃ stn, stn = (WireMath.readNum (nats s) stk WireMath.big).2 := ⟨_, rfl⟩
        have HN2 := Lib.hid (inNum_ok pb s stk 1099511627776 wr HR.out hs hA.out)
        have hbg : (1099511627776 : Int) = (WireMath.big : Nat) := rfl
        rw [hbg, ← hz, ← hstn, ← hbg] at HN2
        have hC2 := hC.out
        rw [WireMath.readCounts_step, ← hz, ← hstn] at hC2
        have HC := Lib.hid (show WireMath.readCounts (nats s) n st1 = ((D ++ [z]) ++ (WireMath.readCounts (nats s) g stn).1, (WireMath.readCounts (nats s) g stn).2) by rw [hC2]; simp)
        have HA := Lib.hid (show stn.at_ ≤ s.size by have := WireMath.readNum_le (nats s) stk WireMath.big (nats_lt s) (by rw [nats_len]; exact hA.out); rw [← hstn, nats_len] at this; exact this)
        have hzb : z ≤ WireMath.big := by rw [hz]; exact Int.ofNat_le.1 (WireMath.readNum_top (nats s) stk WireMath.big (by decide) (nats_lt s) (by rw [nats_len]; exact hA.out)).1
        have HT := Lib.hid (show ∀ d ∈ D ++ [z], d ≤ WireMath.big from fun d hd => by
          rcases List.mem_append.1 hd with h | h
          · exact hT.out d h
          · rw [List.mem_singleton.1 h]; exact hzb)
        have HD := Lib.hid (show (D ++ [z]).length = k + 1 by rw [List.length_append, hD.out]; rfl)
        have HO := Lib.hid hown
        clear hown hD hC hC2 hA hT hz hstn hbg hzb
        go_wp2_with (first
          | (go_at_call 55; refine HN2.out.mono ?_; rintro e w3 ⟨rfl, hR3, hb3⟩; have HO3 := Lib.hid ((HO.out.but hb3 hpl).alloc (.cells #[.int .i64 (z : Int)] 3)); have HR3 := Lib.hid (hR3.below ((Below.refl _ _).alloc (Nat.le_refl _) (.cells #[.int .i64 (z : Int)] 3))); have HB3 := Lib.hid ((HB.out.trans hb3).alloc (.cells #[.int .i64 (z : Int)] 3)); clear hR3 hb3)
          | (at_builtin; refine wpList_append_m rfl _ _ 29 rfl w.heap.size 3 ii (.int .i64 0) 8 Tryd.underlying29 hii hi0 hi1 hi2 rfl _ _ _ rfl HO3.out ⟨_, 0, none⟩ 1 1 [.int .i64 (z : Int)] rfl rfl (one_put _ _ _ _ (by simp)) (fun u hu => by simp at hu; subst hu; rfl) (by unfold maxLen; omega) (by omega) HB3.out.size ?_; intro v2 w4 hown2 hgrow2))
        have hR4 := HR3.out.grown hgrow2 (fun q hq => by have := (HO3.out.lt q hq).1; omega)
        have hB4 := HB3.out.of_grown hgrow2 (fun q hq => (HO3.out.lt q hq).1)
        have hO4 : OwnsM w4 w.heap.size 3 v2 (k + 1) (natVals .i64 (D ++ [z])) := by rw [natVals_append]; exact hown2
        go_roundg g
        case measure => omega
        case rel => exact ⟨k + 1, D ++ [z], stn, by omega, by go_num, hO4, HD, HC, HA, Lib.hid hR4, Lib.hid hB4, HT⟩
      · obtain rfl : k = n := by omega
        obtain rfl : gk = 0 := by omega
        have t2 : decide ((k : Int) < (k : Int)) = false := decide_eq_false (by omega)
        have t2' : decide (k < k) = false := decide_eq_false (by omega)
        have hCk : WireMath.readCounts (nats s) k st1 = (D, stk) := by have := hC.out; rw [this]; simp [WireMath.readCounts]
        have hInts : Ints wr p5 (D.map Int.ofNat) := fun i z hz => by
          rw [List.getElem?_map] at hz
          cases hd : D[i]? with
          | none => rw [hd] at hz; cases hz
          | some d =>
            rw [hd] at hz
            obtain rfl := Option.some.inj hz
            have h1 := hT.out d (List.mem_of_getElem? hd)
            unfold WireMath.big at h1
            have hlt : i < k := by
              rw [← hD.out]
              rcases Nat.lt_or_ge i D.length with g | g
              · exact g
              · rw [List.getElem?_eq_none g] at hd; cases hd
            obtain ⟨g, cap, hv, _, _, _, _, hcell, _⟩ := hown.open (by omega)
            have hp : p5 = some ⟨g, 0, none⟩ := by simpa using congrArg (fun v => match v with | .slice p _ _ => p | _ => none) hv
            refine ⟨?_, g, 0, hp, ?_⟩
            · show -9223372036854775808 ≤ ((d : Nat) : Int) ∧ ((d : Nat) : Int) ≤ 9223372036854775807
              omega
            · rw [Nat.zero_add, hcell i hlt, natVals_at, hd]
              rfl
        have hlen : D.length = k := hD.out
        have htw : WireMath.trimmed (D.map Int.ofNat) WireMath.big = whole_ (D.map Int.ofNat) := by
          rw [trimmed_whole, List.length_map, decide_eq_true (by omega), Bool.true_and]
          have : (D.map Int.ofNat).all (fun n => inr n 0 WireMath.big) = true := by
            rw [List.all_eq_true]
            intro y hy
            obtain ⟨d, hd, rfl⟩ := List.mem_map.1 hy
            exact inr_true ⟨Int.natCast_nonneg d, Int.ofNat_le.2 (hT.out d hd)⟩
          rw [this, Bool.true_and]
        have hR1 := HR1.out
        obtain ⟨a, bad⟩ := stk
        have c1 : wr.cell? ⟨pb, 1, none⟩ = some (.int .i64 (a : Int)) := HR.out.at_
        cases bad with
        | some b =>
          have hv : WireMath.readVec (nats s) ⟨at_, none⟩ = ([], ⟨at_, some at_⟩) := by
            unfold WireMath.readVec
            simp only [hR1, hCk]
          have c2 : wr.cell? ⟨pb, 2, none⟩ = some (.bool true) := HR.out.fault
          have HV := Lib.hid hv
          clear hown hD hC hA hT hCk hR1 hInts hlen hv htw
          go_wp2_with (go_at_call 75; refine (HRf.out _ _ HR.out).mono ?_; rintro e w4 ⟨rfl, hi, hb⟩)
          go_ret
          rw [HV.out]
          exact ⟨⟨none, 0, rfl, (fun i z hz => by cases hz), fun a ha => by cases ha⟩, hi, HB.out.trans hb⟩
        | none =>
          have c2 : wr.cell? ⟨pb, 2, none⟩ = some (.bool false) := HR.out.fault
          have HTm := Lib.hid (trimmed_ok p5 c5 (D.map Int.ofNat) wr hInts (by rw [List.length_map, hlen]; omega))
          rw [List.length_map, hlen] at HTm
          cases htr : whole_ (D.map Int.ofNat) with
          | false =>
            have hv : WireMath.readVec (nats s) ⟨at_, none⟩ = ([], ⟨at_, some at_⟩) := by
              unfold WireMath.readVec
              simp only [hR1, hCk, htw, htr]
              rfl
            rw [htr] at HTm
            have HV := Lib.hid hv
            clear hown hD hC hA hT hCk hR1 hInts hlen hv htr htw
            go_wp2_with (first
              | (go_at_call 66; refine HTm.out.mono ?_; rintro e w3 ⟨rfl, rfl⟩)
              | (go_at_call 75; refine (HRf.out _ _ HR.out).mono ?_; rintro e w4 ⟨rfl, hi, hb⟩))
            go_ret
            rw [HV.out]
            exact ⟨⟨none, 0, rfl, (fun i z hz => by cases hz), fun a ha => by cases ha⟩, hi, HB.out.trans hb⟩
          | true =>
            have hv : WireMath.readVec (nats s) ⟨at_, none⟩ = (D, ⟨a, none⟩) := by
              unfold WireMath.readVec
              simp only [hR1, hCk, htw, htr]
              rfl
            rw [htr] at HTm
            have HV := Lib.hid hv
            have HL := Lib.hid hlen
            have HI := Lib.hid hInts
            have HBk := Lib.hid (show ∀ a, p5 = some a → w.heap.size ≤ a.block from fun a ha => (hown.lt a.block (by rw [ha]; rfl)).1)
            clear hown hD hC hA hT hCk hR1 hInts hlen hv htr htw
            go_wp2_with (go_at_call 66; refine HTm.out.mono ?_; rintro e w3 ⟨rfl, rfl⟩)
            go_ret
            rw [HV.out]
            exact ⟨⟨p5, c5, by rw [HL.out]; rfl, HI.out, HBk.out⟩, HR.out, HB.out⟩

theorem Ints.but {w w' : World} {pb : Nat} {pp : Option Addr} {zs : List Int} (h : Ints w pp zs) (hb : But pb w w') (hn : ∀ a, pp = some a → a.block ≠ pb) : Ints w' pp zs := fun i z hz => by
  obtain ⟨hr, b, off, hp, hc⟩ := h i z hz
  exact ⟨hr, b, off, hp, (hb.cell (cell_lt hc) (hn _ hp)).trans hc⟩
theorem readFlag_le (l : List Nat) (st : WireMath.At) (hl : ∀ b ∈ l, b < 256) (ha : st.at_ ≤ l.length) : (WireMath.readFlag l st).2.at_ ≤ l.length := WireMath.readNum_le l st 1 hl ha
theorem readCounts_le (l : List Nat) (hl : ∀ b ∈ l, b < 256) : ∀ (n : Nat) (st : WireMath.At), st.at_ ≤ l.length → (WireMath.readCounts l n st).2.at_ ≤ l.length
  | 0, _, ha => ha
  | n + 1, st, ha => by
    rw [WireMath.readCounts_step]
    exact readCounts_le l hl n _ (WireMath.readNum_le l st WireMath.big hl ha)
theorem readVec_le (l : List Nat) (st : WireMath.At) (hl : ∀ b ∈ l, b < 256) (ha : st.at_ ≤ l.length) : (WireMath.readVec l st).2.at_ ≤ l.length := by
  obtain ⟨a, bad⟩ := st
  cases bad with
  | some b => exact ha
  | none =>
    unfold WireMath.readVec
    simp only
    split
    · exact ha
    · split
      · exact readCounts_le l hl _ _ (WireMath.readNum_le l ⟨a, none⟩ 16 hl ha)
      · exact ha
end Go.Proofs.YtajhegjemhegiaaDoor
