/-
  The contract of chapter 5's helper put: things, put one behind the other. The conditions: a row of things in one block from its first cell on; their kinds, texts and vectors as typed.
-/
import Derived.Test.YtpmhfoleafjlbaaDoorWireFew
import Derived.Test.YtpmhfoleafjlbaaDoorWireOuts
import Derived.Test.YtpmhfoleafjlbaaDoorWireDone
import Derived.Test.YtpmhfoleafjlbaaDoorWireThings
import Derived.Test.YtpmhfoleafjlbaaDoorWireEncMath
import Derived.Test.YtpmhfoleafjlbaaDoorWireInr
namespace Go.Proofs.YtpmhfoleafjlbaaDoor
open Go.RowKit TextNat

theorem put_k0 {x : WireMath.Thing} (h : x.k = 0) (p : WireMath.Put) : WireMath.put p x = WireMath.putN p [x.n] [] := by
  unfold WireMath.put WireMath.putN
  cases hb : p.bad with
  | some q => rfl
  | none =>
    have h1 : ([x.n].all WireMath.mayNum) = WireMath.mayNum x.n := by simp
    simp only [h1]
    by_cases hm : 0 ≤ x.n ∧ x.n ≤ WireMath.top
    · rw [WireMath.bytes_k0 h hm.1 hm.2]
      have : WireMath.mayNum x.n = true := by unfold WireMath.mayNum; simp [hm]
      simp only [this]
      simp [WireMath.numsBytes]
    · have h2 : WireMath.bytes x = none := by unfold WireMath.bytes; rw [h, if_neg (by decide), if_neg (by decide), if_neg (by decide), if_neg hm]
      have h3 : WireMath.mayNum x.n = false := by unfold WireMath.mayNum; rw [Bool.eq_false_iff]; intro h; simp at h; exact hm h
      simp only [h2, h3]
      simp
theorem put_some {x : WireMath.Thing} {zs : List Int} {s : List Nat} (h : WireMath.bytes x = some (WireMath.numsBytes zs ++ s)) (hm : zs.all WireMath.mayNum = true) (p : WireMath.Put) : WireMath.put p x = WireMath.putN p zs s := by
  unfold WireMath.put WireMath.putN
  cases hb : p.bad with
  | some q => rfl
  | none => simp only [h, hm, if_true]
theorem put_k1 {x : WireMath.Thing} (h : x.k = 1) (hs : x.s.length ≤ 200000) (p : WireMath.Put) : WireMath.put p x = WireMath.putN p [(x.s.length : Int)] x.s := by
  refine put_some ?_ ?_ p
  · rw [WireMath.bytes_k1 h]
    simp [WireMath.numsBytes, WireMath.textBytes]
  · simp only [List.all_cons, List.all_nil, Bool.and_true]
    exact WireMath.mayNum_nat _ (by unfold WireMath.top; omega)
theorem put_k2 {x : WireMath.Thing} (h : x.k = 2) (p : WireMath.Put) : WireMath.put p x = WireMath.putN p [if x.b then 1 else 0] [] := by
  refine put_some ?_ ?_ p
  · rw [WireMath.bytes_k2 h]
    cases x.b <;> rfl
  · cases x.b <;> rfl
theorem put_k3 {x : WireMath.Thing} (h : x.k = 3) (p : WireMath.Put) : WireMath.put p x = putVec p x.v := by
  unfold putVec
  by_cases hc : x.v.length ≤ 16 ∧ whole_ x.v = true
  · rw [if_pos hc]
    by_cases ha : x.v.all WireMath.mayNum = true
    · refine put_some ?_ ?_ p
      · rw [WireMath.bytes_k3 h]
        · simp [WireMath.numsBytes, WireMath.vecBytes]
        · rw [trimmed_whole]
          simp only [Bool.and_eq_true, decide_eq_true_eq]
          refine ⟨⟨hc.1, ?_⟩, hc.2⟩
          rw [List.all_eq_true] at ha ⊢
          intro z hz
          have := ha z hz
          unfold WireMath.mayNum at this
          rw [inr_iff]
          simpa using this
      · simp only [List.all_cons, Bool.and_eq_true]
        exact ⟨WireMath.mayNum_nat _ (by unfold WireMath.top; omega), ha⟩
    · have ha' : x.v.all WireMath.mayNum = false := by simpa using ha
      have h2 : WireMath.bytes x = none := by
        unfold WireMath.bytes
        rw [h, if_neg (by decide), if_neg (by decide), if_pos rfl, if_neg]
        intro ht
        rw [trimmed_whole] at ht
        simp only [Bool.and_eq_true, List.all_eq_true] at ht
        apply ha
        rw [List.all_eq_true]
        intro z hz
        have := inr_iff.1 (ht.1.2 z hz)
        unfold WireMath.mayNum
        simp [this]
      unfold WireMath.put WireMath.putN
      cases hb : p.bad with
      | some q => rfl
      | none => simp only [h2, List.all_cons, ha', Bool.and_false, if_neg (show ¬ (false = true) by decide)]
  · rw [if_neg hc]
    have h2 : WireMath.bytes x = none := by
      unfold WireMath.bytes
      rw [h, if_neg (by decide), if_neg (by decide), if_pos rfl, if_neg]
      intro ht
      rw [trimmed_whole] at ht
      simp only [Bool.and_eq_true, decide_eq_true_eq] at ht
      exact hc ⟨ht.1.1, ht.2⟩
    unfold WireMath.put fail_
    cases hb : p.bad with
    | some q => rfl
    | none => simp only [h2]
/-- A thing that few lets through. -/
structure Item.fine (x : Item) : Prop where
  k : 0 ≤ x.k ∧ x.k ≤ 3
  n : -9223372036854775808 ≤ x.n ∧ x.n ≤ 9223372036854775807
  s : x.s.size ≤ 70000
  v : x.vl.length ≤ 100
theorem tidy_fine {x : Item} (h : x.small) (hl : x.long = false) : x.tidy.fine := by
  obtain ⟨h1, h2, h3, h4⟩ := h
  unfold Item.long at hl
  simp only [Bool.or_eq_false_iff, decide_eq_false_iff_not] at hl
  unfold Item.tidy
  split
  · exact ⟨by show 0 ≤ (0 : Int) ∧ (0 : Int) ≤ 3; omega, h2, by show x.s.size ≤ _; omega, by show x.vl.length ≤ _; omega⟩
  · exact ⟨by omega, h2, by omega, by omega⟩
set_option maxRecDepth 100000 in
set_option maxHeartbeats 4000000 in
theorem put_all (ys : List Item) (g N cap : Nat) (w : World) (hI : ItemsAt w g ys) (hlt : g < w.heap.size) (hN : N = ys.length) (hl : N ≤ 300) (hf : ∀ x ∈ ys, x.fine) :
    Calls Tryd.prog 7 #[.slice (some ⟨g, 0, none⟩) N cap] w fun e w' => ∃ ob, e = .returned (.pointer (some ⟨ob, 0, none⟩)) ∧ w.heap.size ≤ ob ∧ OutAt w' ob (WireMath.written (ys.map Item.thing)) ∧ Below w.heap.size w w' := by
  have HI := Lib.hid hI
  have HF := Lib.hid hf
  have HN := Lib.hid hN
  have HG := Lib.hid hlt
  have HO := Lib.hid (out_new w)
  have HB : Hid (Below w.heap.size w (w.alloc (.cells #[.pointer none, .int .i64 0, .int .i64 0] 63))) := Lib.hid ((Below.refl _ _).alloc (Nat.le_refl _) _)
  clear hI hf hN hlt
  go_enter Tryd.func7, Tryd.ntmps7
  go_wp2_with fail
  go_loopg [10] N (fun gh s10 wx => ∃ i : Nat, i + gh = N ∧ s10 = .int .i64 (i : Int) ∧ OutAt wx w.heap.size (WireMath.written ((ys.take i).map Item.thing)) ∧ Below w.heap.size w wx)
  case atStart => exact ⟨0, by omega, by go_num, HO.out, HB.out⟩
  case round =>
    obtain ⟨i, hi, rfl, ho, hb⟩ := hrel
    have HOr := Lib.hid ho
    have HBr := Lib.hid hb
    clear ho hb HO HB
    by_cases hiN : i < N
    · have t0 : decide ((i : Int) < (N : Int)) = true := decide_eq_true (by omega)
      have t0' : decide (i < N) = true := decide_eq_true hiN
      obtain ⟨x, hx⟩ : ∃ x, ys[i]? = some x := ⟨_, List.getElem?_eq_getElem (by rw [← HN.out]; exact hiN)⟩
      obtain ⟨c0, c1, c2, c3, c4, hz⟩ := HI.out.grown HG.out HBr.out i x hx
      obtain ⟨⟨hk0, hk3⟩, hn, hs, hv⟩ := HF.out x (List.mem_of_getElem? hx)
      have hstep : WireMath.written ((ys.take (i + 1)).map Item.thing) = WireMath.put (WireMath.written ((ys.take i).map Item.thing)) x.thing := by
        unfold WireMath.written
        rw [List.take_add_one, hx]
        simp only [Option.toList, List.map_append, List.map_cons, List.map_nil, List.foldl_append, List.foldl_cons, List.foldl_nil]
      have hkk : x.k = 0 ∨ x.k = 1 ∨ x.k = 2 ∨ x.k = 3 := by omega
      have HNs := Lib.hid hn
      have HSs := Lib.hid (show x.s.size ≤ 200000 by omega)
      have HVs := Lib.hid (show x.vl.length ≤ 9223372036854775807 by omega)
      clear hx hk0 hk3 hn hs hv
      rcases hkk with hk | hk | hk | hk
      · have HP := Lib.hid (show WireMath.written ((ys.take (i + 1)).map Item.thing) = WireMath.putN (WireMath.written ((ys.take i).map Item.thing)) [x.n] [] from by rw [hstep, put_k0 (x := x.thing) hk _]; rfl)
        clear hstep
        rw [hk] at c0
        have hal : Below wr.heap.size wr (wr.alloc (.cells #[.int .i64 0, .int .i64 x.n, .string x.s, .bool x.b, .slice x.vp x.vl.length x.vc] 65)) := (Below.refl _ _).alloc (Nat.le_refl _) _
        have hal2 : Lies (wr.alloc (.cells #[.int .i64 0, .int .i64 x.n, .string x.s, .bool x.b, .slice x.vp x.vl.length x.vc] 65)) wr.heap.size [.int .i64 0, .int .i64 x.n, .string x.s, .bool x.b, .slice x.vp x.vl.length x.vc] 65 := Lies.new wr _ _
        have d0 := hal2.cell (i := 0) rfl; have d1 := hal2.cell (i := 1) rfl; have d2 := hal2.cell (i := 2) rfl; have d3 := hal2.cell (i := 3) rfl; have d4 := hal2.cell (i := 4) rfl
        have HOa := Lib.hid (HOr.out.below hal)
        have HBa := Lib.hid (HBr.out.trans (hal.mono HBr.out.size))
        have HZa := Lib.hid (hz.grown hal)
        clear hal hal2 hz
        go_wp2_with (go_at_call 10; refine (num_ok _ _ x.n _ HOa.out HNs.out).mono ?_; rintro e w4 ⟨rfl, ho, hb⟩)
        go_roundg (N - (i + 1))
        case measure => omega
        case rel => exact ⟨i + 1, by omega, by go_num, by rw [HP.out]; exact ho, HBa.out.trans (hb.below HBa.out.size)⟩
      · have HP := Lib.hid (show WireMath.written ((ys.take (i + 1)).map Item.thing) = WireMath.putN (WireMath.written ((ys.take i).map Item.thing)) [(x.s.size : Int)] (nats x.s) from by rw [hstep, put_k1 (x := x.thing) hk (show (nats x.s).length ≤ _ by rw [nats_len]; exact HSs.out) _, show x.thing.s.length = x.s.size from nats_len x.s]; rfl)
        clear hstep
        rw [hk] at c0
        have hal : Below wr.heap.size wr (wr.alloc (.cells #[.int .i64 1, .int .i64 x.n, .string x.s, .bool x.b, .slice x.vp x.vl.length x.vc] 65)) := (Below.refl _ _).alloc (Nat.le_refl _) _
        have hal2 : Lies (wr.alloc (.cells #[.int .i64 1, .int .i64 x.n, .string x.s, .bool x.b, .slice x.vp x.vl.length x.vc] 65)) wr.heap.size [.int .i64 1, .int .i64 x.n, .string x.s, .bool x.b, .slice x.vp x.vl.length x.vc] 65 := Lies.new wr _ _
        have d0 := hal2.cell (i := 0) rfl; have d1 := hal2.cell (i := 1) rfl; have d2 := hal2.cell (i := 2) rfl; have d3 := hal2.cell (i := 3) rfl; have d4 := hal2.cell (i := 4) rfl
        have HOa := Lib.hid (HOr.out.below hal)
        have HBa := Lib.hid (HBr.out.trans (hal.mono HBr.out.size))
        have HZa := Lib.hid (hz.grown hal)
        clear hal hal2 hz
        go_wp2_with (go_at_call 11; refine (text_ok _ _ x.s _ HOa.out HSs.out).mono ?_; rintro e w4 ⟨rfl, ho, hb⟩)
        go_roundg (N - (i + 1))
        case measure => omega
        case rel => exact ⟨i + 1, by omega, by go_num, by rw [HP.out]; exact ho, HBa.out.trans (hb.below HBa.out.size)⟩
      · have HP := Lib.hid (show WireMath.written ((ys.take (i + 1)).map Item.thing) = WireMath.putN (WireMath.written ((ys.take i).map Item.thing)) [if x.b then 1 else 0] [] from by rw [hstep, put_k2 (x := x.thing) hk _]; rfl)
        clear hstep
        rw [hk] at c0
        have hal : Below wr.heap.size wr (wr.alloc (.cells #[.int .i64 2, .int .i64 x.n, .string x.s, .bool x.b, .slice x.vp x.vl.length x.vc] 65)) := (Below.refl _ _).alloc (Nat.le_refl _) _
        have hal2 : Lies (wr.alloc (.cells #[.int .i64 2, .int .i64 x.n, .string x.s, .bool x.b, .slice x.vp x.vl.length x.vc] 65)) wr.heap.size [.int .i64 2, .int .i64 x.n, .string x.s, .bool x.b, .slice x.vp x.vl.length x.vc] 65 := Lies.new wr _ _
        have d0 := hal2.cell (i := 0) rfl; have d1 := hal2.cell (i := 1) rfl; have d2 := hal2.cell (i := 2) rfl; have d3 := hal2.cell (i := 3) rfl; have d4 := hal2.cell (i := 4) rfl
        have HOa := Lib.hid (HOr.out.below hal)
        have HBa := Lib.hid (HBr.out.trans (hal.mono HBr.out.size))
        have HZa := Lib.hid (hz.grown hal)
        clear hal hal2 hz
        go_wp2_with (go_at_call 12; refine (flag_ok _ _ x.b _ HOa.out).mono ?_; rintro e w4 ⟨rfl, ho, hb⟩)
        go_roundg (N - (i + 1))
        case measure => omega
        case rel => exact ⟨i + 1, by omega, by go_num, by rw [HP.out]; exact ho, HBa.out.trans (hb.below HBa.out.size)⟩
      · have HP := Lib.hid (show WireMath.written ((ys.take (i + 1)).map Item.thing) = putVec (WireMath.written ((ys.take i).map Item.thing)) x.vl from by rw [hstep, put_k3 (x := x.thing) hk _]; rfl)
        clear hstep
        rw [hk] at c0
        have hal : Below wr.heap.size wr (wr.alloc (.cells #[.int .i64 3, .int .i64 x.n, .string x.s, .bool x.b, .slice x.vp x.vl.length x.vc] 65)) := (Below.refl _ _).alloc (Nat.le_refl _) _
        have hal2 : Lies (wr.alloc (.cells #[.int .i64 3, .int .i64 x.n, .string x.s, .bool x.b, .slice x.vp x.vl.length x.vc] 65)) wr.heap.size [.int .i64 3, .int .i64 x.n, .string x.s, .bool x.b, .slice x.vp x.vl.length x.vc] 65 := Lies.new wr _ _
        have d0 := hal2.cell (i := 0) rfl; have d1 := hal2.cell (i := 1) rfl; have d2 := hal2.cell (i := 2) rfl; have d3 := hal2.cell (i := 3) rfl; have d4 := hal2.cell (i := 4) rfl
        have HOa := Lib.hid (HOr.out.below hal)
        have HBa := Lib.hid (HBr.out.trans (hal.mono HBr.out.size))
        have HZa := Lib.hid (hz.grown hal)
        clear hal hal2 hz
        go_wp2_with (go_at_call 13; refine (vec_ok _ _ x.vp x.vc x.vl _ HOa.out HZa.out HVs.out).mono ?_; rintro e w4 ⟨rfl, ho, hb⟩)
        go_roundg (N - (i + 1))
        case measure => omega
        case rel => exact ⟨i + 1, by omega, by go_num, by rw [HP.out]; exact ho, HBa.out.trans (hb.below HBa.out.size)⟩
    · have hiM : i = N := by omega
      have t0 : decide ((i : Int) < (N : Int)) = false := decide_eq_false (by omega)
      have t0' : decide (i < N) = false := decide_eq_false (by omega)
      have HE := Lib.hid (show OutAt wr w.heap.size (WireMath.written (ys.map Item.thing)) from by
        have := HOr.out
        rw [hiM, HN.out, List.take_length] at this
        exact this)
      clear hiM
      go_wp2
      go_ret
      exact ⟨_, rfl, Nat.le_refl _, HE.out, HBr.out⟩
end Go.Proofs.YtpmhfoleafjlbaaDoor
