/-
  The program's with of chapter 14: a cookie with what an attribute says. The conditions: a text of at most 10,000 bytes; unicode/utf8's two tables as Go's text lays them.
-/
import Derived.Test.YtlgofepmdjlpgaaDoorBakeP2
namespace Go.Proofs.YtlgofepmdjlpgaaDoor
open Go.RowKit TextNat BakeMath

theorem results_cell_one {P : Program} {fn : Func} {p : Tmp} {ty : TypeId} (h : fn.results = #[.cell p ty]) (tmps : Array Value) (w : World) (g : Nat) (T : TypeId) (cs : Array Value) (fr : Nat × Nat) (d : TypeDesc)
    (hp : tmps.getD p undef = .pointer (some ⟨g, 0, none⟩)) (hg : w.heap[g]? = some (.cells cs T fr))
    (hu : P.underlying ty = some d) (hd : (match d with | .struct _ | .array _ _ => true | _ => false) = true) (hi : (P.info? ty).map (·.size) = some cs.size) :
    (results fn tmps).run P w = .ok (.agg cs) w := by
  have hp' : tmps[p]?.getD undef = .pointer (some ⟨g, 0, none⟩) := by simpa using hp
  simp [results, h, hp', asAddr, run_loadVar_row w g T ty cs fr d hg hu hd hi]
set_option maxRecDepth 100000 in
set_option maxHeartbeats 16000000 in
theorem pwith (n v p : List Nat) (a : Int) (se ht : Bool) (si : Int) (s : ByteArray) (w : World) (hs : s.size ≤ 10000) (up : ∀ w2, Below w.heap.size w w2 → Tabs w2) :
    Calls Tryd.prog 23 #[.agg #[.string (txt n), .string (txt v), .string (txt p), .int .i64 a, .bool se, .bool ht, .int .i64 si], .string s] w fun e w' => e = .returned (CookieV.of (BakeMath.step ⟨n, v, p, a, se, ht, si⟩ (nats s))).val ∧ Below w.heap.size w w' := by
  have HA := Lib.hid (fun w2 (hb : Below w.heap.size w w2) => phalves s w2 (by omega) (fun w3 hb3 => up w3 (hb.trans (hb3.mono hb.size))))
  obtain ⟨q1, q2, _⟩ := cutAt_len 61 (nats s)
  obtain ⟨q4, q5⟩ := cutAt_mem 61 (nats s)
  rw [nats_len] at q1 q2
  obtain ⟨k0, hk0⟩ : ∃ k0, k0 = TextMath.trim (cutAt 61 (nats s)).1 := ⟨_, rfl⟩
  obtain ⟨V, hV⟩ : ∃ V, V = TextMath.trim (cutAt 61 (nats s)).2.1 := ⟨_, rfl⟩
  obtain ⟨K, hK⟩ : ∃ K, K = small k0 := ⟨_, rfl⟩
  have hk0b : ∀ b ∈ k0, b < 256 := by rw [hk0]; exact fun b hb => nats_lt s b (q4 b (trim_mem hb))
  have hVb : ∀ b ∈ V, b < 256 := by rw [hV]; exact fun b hb => nats_lt s b (q5 b (trim_mem hb))
  have hKb : ∀ b ∈ K, b < 256 := by rw [hK]; exact small_lt hk0b
  have hk0l : k0.length ≤ 10000 := by rw [hk0]; have := trim_len' (cutAt 61 (nats s)).1; omega
  have hVl : V.length ≤ 10000 := by rw [hV]; have := trim_len' (cutAt 61 (nats s)).2.1; omega
  have hS := fun w => psmall (txt k0) w (by rw [txt_len]; omega)
  have hP : ∀ w, Calls Tryd.prog 40 #[.string (txt V), .string ⟨#[47]⟩] w fun e w' => e = .returned (.bool ((nats (txt V)).head? == some 47)) ∧ w' = w := fun w => has_prefix (txt V) 47 w
  have hN := fun w => page (txt V) w (by rw [txt_len]; omega)
  have hI := fun w => psite (txt V) w (by rw [txt_len]; omega)
  rw [nats_txt _ hk0b, ← hK] at hS
  rw [nats_txt _ hVb] at hP hN hI
  have HS := Lib.hid hS
  have HP := Lib.hid hP
  have HN := Lib.hid hN
  have HI := Lib.hid hI
  clear hS hP hN hI
  rw [← hk0, ← hV] at HA
  obtain ⟨o, ho⟩ : ∃ o, o = (cutAt 61 (nats s)).2.2 := ⟨_, rfl⟩
  rw [← ho] at HA
  obtain ⟨R, hR⟩ : ∃ R, R = BakeMath.step ⟨n, v, p, a, se, ht, si⟩ (nats s) := ⟨_, rfl⟩
  have HR := Lib.hid (show R = tell K V ⟨n, v, p, a, se, ht, si⟩ by rw [hR, hK, hk0, hV]; rfl)
  rw [← hR]
  have e1 : ((txt K).toList == [112, 97, 116, 104]) = decide (K = kPath) := lit_eq hKb (by decide) (by kernel_rfl)
  have e2 : ((txt K).toList == [109, 97, 120, 45, 97, 103, 101]) = decide (K = kAge) := lit_eq hKb (by decide) (by kernel_rfl)
  have e3 : ((txt K).toList == [115, 101, 99, 117, 114, 101]) = decide (K = kSec) := lit_eq hKb (by decide) (by kernel_rfl)
  have e4 : ((txt K).toList == [104, 116, 116, 112, 111, 110, 108, 121]) = decide (K = kHttp) := lit_eq hKb (by decide) (by kernel_rfl)
  have e5 : ((txt K).toList == [115, 97, 109, 101, 115, 105, 116, 101]) = decide (K = kSite) := lit_eq hKb (by decide) (by kernel_rfl)
  clear hk0 hV hK hk0b hVb hKb hk0l hVl hR ho q1 q2 q4 q5
  by_cases h1 : K = kPath
  · rw [decide_eq_true h1] at e1
    clear e2 e3 e4 e5 HN HI
    by_cases hv : V.head? = some 47
    · skip
      have HV := Lib.hid (show (CookieV.of R).val = .agg #[.string (txt n), .string (txt v), .string (txt V), .int .i64 a, .bool se, .bool ht, .int .i64 si] by rw [HR.out]; rw [h1, tell_path, if_pos hv]; rfl)
      have tv : (V.head? == some 47) = true := by rw [hv]; rfl
      rw [tv] at HP
      clear HR h1 hv tv
      go_enter Tryd.func23, Tryd.ntmps23
      go_wp2_with fail
      obtain ⟨W, hW⟩ : ∃ W, W = (w.alloc (.cells #[.string (txt n), .string (txt v), .string (txt p), .int .i64 a, .bool se, .bool ht, .int .i64 si] 23)).alloc (.cells #[.string ⟨#[]⟩, .string ⟨#[]⟩, .string ⟨#[]⟩, .int .i64 0, .bool false, .bool false, .int .i64 0] 23) := ⟨_, rfl⟩
      rw [← hW]
      obtain ⟨g, hg⟩ : ∃ g, g = w.heap.size := ⟨_, rfl⟩
      obtain ⟨q, hq⟩ : ∃ q, q = w.heap.size + 1 := ⟨_, rfl⟩
      have HB := Lib.hid (show Below w.heap.size w W by rw [hW]; exact ((Below.refl _ _).alloc (Nat.le_refl _) _).alloc (by simp) _)
      have HRow := Lib.hid (show Lies W g [.string (txt n), .string (txt v), .string (txt p), .int .i64 a, .bool se, .bool ht, .int .i64 si] 23 by rw [hW, hg]; exact (Lies.new w _ _).below ((Below.refl _ _).alloc (Nat.le_refl _) _))
      have HRes := Lib.hid (show Lies W q [.string ⟨#[]⟩, .string ⟨#[]⟩, .string ⟨#[]⟩, .int .i64 0, .bool false, .bool false, .int .i64 0] 23 by rw [hW, hq]; have h := Lies.new (w.alloc (.cells #[.string (txt n), .string (txt v), .string (txt p), .int .i64 a, .bool se, .bool ht, .int .i64 si] 23)) [.string ⟨#[]⟩, .string ⟨#[]⟩, .string ⟨#[]⟩, .int .i64 0, .bool false, .bool false, .int .i64 0] 23; simpa using h)
      have HGe := Lib.hid (show w.heap.size ≤ g ∧ w.heap.size ≤ q ∧ ¬ g = q ∧ ¬ q = g by omega)
      rw [← hq, ← hg]
      clear hW hg hq
      refine (HA.out _ HB.out).mono ?_
      rintro e w2 ⟨rfl, hb⟩
      replace HRow := Lib.hid (HRow.out.below hb)
      replace HRes := Lib.hid (HRes.out.below hb)
      replace HB := Lib.hid (HB.out.trans (hb.mono HB.out.size))
      clear hb
      go_wp2_with fail
      refine (HS.out _).mono ?_
      rintro e w3 ⟨rfl, hb⟩
      replace HRow := Lib.hid (HRow.out.below hb)
      replace HRes := Lib.hid (HRes.out.below hb)
      replace HB := Lib.hid (HB.out.trans (hb.mono HB.out.size))
      clear hb
      have r0 := HRow.out.cell (i := 0) rfl; have fr0 := HRow.out.free 0; have r1 := HRow.out.cell (i := 1) rfl; have fr1 := HRow.out.free 1; have r2 := HRow.out.cell (i := 2) rfl; have fr2 := HRow.out.free 2; have r3 := HRow.out.cell (i := 3) rfl; have fr3 := HRow.out.free 3; have r4 := HRow.out.cell (i := 4) rfl; have fr4 := HRow.out.free 4; have r5 := HRow.out.cell (i := 5) rfl; have fr5 := HRow.out.free 5; have r6 := HRow.out.cell (i := 6) rfl; have fr6 := HRow.out.free 6
      go_wp2_with fail
      obtain ⟨w4, hw4⟩ : ∃ w4, w4 = w3.setCell ⟨g, 2, none⟩ (.string ⟨#[]⟩) := ⟨_, rfl⟩
      rw [← hw4]
      replace HRow := Lib.hid (show Lies w4 g [.string (txt n), .string (txt v), .string ⟨#[]⟩, .int .i64 a, .bool se, .bool ht, .int .i64 si] 23 by rw [hw4]; exact HRow.out.set 2 (.string ⟨#[]⟩))
      replace HRes := Lib.hid (show Lies w4 q [.string ⟨#[]⟩, .string ⟨#[]⟩, .string ⟨#[]⟩, .int .i64 0, .bool false, .bool false, .int .i64 0] 23 by rw [hw4]; exact lies_other HRes.out HGe.out.2.2.2)
      replace HB := Lib.hid (show Below w.heap.size w w4 by rw [hw4]; exact below_set HB.out HGe.out.1 _ _)
      clear hw4 r0 r1 r2 r3 r4 r5 r6 fr0 fr1 fr2 fr3 fr4 fr5 fr6
      refine (HP.out _).mono ?_
      rintro e w5 ⟨rfl, hw⟩
      rw [hw]
      clear hw
      have r0 := HRow.out.cell (i := 0) rfl; have fr0 := HRow.out.free 0; have r1 := HRow.out.cell (i := 1) rfl; have fr1 := HRow.out.free 1; have r2 := HRow.out.cell (i := 2) rfl; have fr2 := HRow.out.free 2; have r3 := HRow.out.cell (i := 3) rfl; have fr3 := HRow.out.free 3; have r4 := HRow.out.cell (i := 4) rfl; have fr4 := HRow.out.free 4; have r5 := HRow.out.cell (i := 5) rfl; have fr5 := HRow.out.free 5; have r6 := HRow.out.cell (i := 6) rfl; have fr6 := HRow.out.free 6
      have c0 := HRes.out.cell (i := 0) rfl; have fc0 := HRes.out.free 0; have c1 := HRes.out.cell (i := 1) rfl; have fc1 := HRes.out.free 1; have c2 := HRes.out.cell (i := 2) rfl; have fc2 := HRes.out.free 2; have c3 := HRes.out.cell (i := 3) rfl; have fc3 := HRes.out.free 3; have c4 := HRes.out.cell (i := 4) rfl; have fc4 := HRes.out.free 4; have c5 := HRes.out.cell (i := 5) rfl; have fc5 := HRes.out.free 5; have c6 := HRes.out.cell (i := 6) rfl; have fc6 := HRes.out.free 6
      have hgq := HGe.out
      obtain ⟨_, _, n1, n2⟩ := hgq
      go_wp2
      have HRes2 := lies_other (v := .string (txt V)) (j := 2) HRes.out n2
      have HB2 := below_set HB.out HGe.out.1 2 (.string (txt V))
      obtain ⟨q1, q2⟩ := put_seven HRes2 rfl (.string (txt n)) (.string (txt v)) (.string (txt V)) (.int .i64 a) (.bool se) (.bool ht) (.int .i64 si)
      refine bodyPost_ret (results_cell_one Tryd.results23 _ _ q 23 _ (0, 0) _ rfl q1 Tryd.underlying23 rfl (by kernel_rfl)) rfl ?_
      exact ⟨by rw [HV.out], HB2.trans ((q2.below (Nat.le_of_lt HRes2.lt)).mono HGe.out.2.1)⟩
    · skip
      have HV := Lib.hid (show (CookieV.of R).val = .agg #[.string (txt n), .string (txt v), .string ⟨#[]⟩, .int .i64 a, .bool se, .bool ht, .int .i64 si] by rw [HR.out]; rw [h1, tell_path, if_neg hv]; rfl)
      have tv : (V.head? == some 47) = false := by rw [beq_eq_false_iff_ne]; exact hv
      rw [tv] at HP
      clear HR h1 hv tv
      go_enter Tryd.func23, Tryd.ntmps23
      go_wp2_with fail
      obtain ⟨W, hW⟩ : ∃ W, W = (w.alloc (.cells #[.string (txt n), .string (txt v), .string (txt p), .int .i64 a, .bool se, .bool ht, .int .i64 si] 23)).alloc (.cells #[.string ⟨#[]⟩, .string ⟨#[]⟩, .string ⟨#[]⟩, .int .i64 0, .bool false, .bool false, .int .i64 0] 23) := ⟨_, rfl⟩
      rw [← hW]
      obtain ⟨g, hg⟩ : ∃ g, g = w.heap.size := ⟨_, rfl⟩
      obtain ⟨q, hq⟩ : ∃ q, q = w.heap.size + 1 := ⟨_, rfl⟩
      have HB := Lib.hid (show Below w.heap.size w W by rw [hW]; exact ((Below.refl _ _).alloc (Nat.le_refl _) _).alloc (by simp) _)
      have HRow := Lib.hid (show Lies W g [.string (txt n), .string (txt v), .string (txt p), .int .i64 a, .bool se, .bool ht, .int .i64 si] 23 by rw [hW, hg]; exact (Lies.new w _ _).below ((Below.refl _ _).alloc (Nat.le_refl _) _))
      have HRes := Lib.hid (show Lies W q [.string ⟨#[]⟩, .string ⟨#[]⟩, .string ⟨#[]⟩, .int .i64 0, .bool false, .bool false, .int .i64 0] 23 by rw [hW, hq]; have h := Lies.new (w.alloc (.cells #[.string (txt n), .string (txt v), .string (txt p), .int .i64 a, .bool se, .bool ht, .int .i64 si] 23)) [.string ⟨#[]⟩, .string ⟨#[]⟩, .string ⟨#[]⟩, .int .i64 0, .bool false, .bool false, .int .i64 0] 23; simpa using h)
      have HGe := Lib.hid (show w.heap.size ≤ g ∧ w.heap.size ≤ q ∧ ¬ g = q ∧ ¬ q = g by omega)
      rw [← hq, ← hg]
      clear hW hg hq
      refine (HA.out _ HB.out).mono ?_
      rintro e w2 ⟨rfl, hb⟩
      replace HRow := Lib.hid (HRow.out.below hb)
      replace HRes := Lib.hid (HRes.out.below hb)
      replace HB := Lib.hid (HB.out.trans (hb.mono HB.out.size))
      clear hb
      go_wp2_with fail
      refine (HS.out _).mono ?_
      rintro e w3 ⟨rfl, hb⟩
      replace HRow := Lib.hid (HRow.out.below hb)
      replace HRes := Lib.hid (HRes.out.below hb)
      replace HB := Lib.hid (HB.out.trans (hb.mono HB.out.size))
      clear hb
      have r0 := HRow.out.cell (i := 0) rfl; have fr0 := HRow.out.free 0; have r1 := HRow.out.cell (i := 1) rfl; have fr1 := HRow.out.free 1; have r2 := HRow.out.cell (i := 2) rfl; have fr2 := HRow.out.free 2; have r3 := HRow.out.cell (i := 3) rfl; have fr3 := HRow.out.free 3; have r4 := HRow.out.cell (i := 4) rfl; have fr4 := HRow.out.free 4; have r5 := HRow.out.cell (i := 5) rfl; have fr5 := HRow.out.free 5; have r6 := HRow.out.cell (i := 6) rfl; have fr6 := HRow.out.free 6
      go_wp2_with fail
      obtain ⟨w4, hw4⟩ : ∃ w4, w4 = w3.setCell ⟨g, 2, none⟩ (.string ⟨#[]⟩) := ⟨_, rfl⟩
      rw [← hw4]
      replace HRow := Lib.hid (show Lies w4 g [.string (txt n), .string (txt v), .string ⟨#[]⟩, .int .i64 a, .bool se, .bool ht, .int .i64 si] 23 by rw [hw4]; exact HRow.out.set 2 (.string ⟨#[]⟩))
      replace HRes := Lib.hid (show Lies w4 q [.string ⟨#[]⟩, .string ⟨#[]⟩, .string ⟨#[]⟩, .int .i64 0, .bool false, .bool false, .int .i64 0] 23 by rw [hw4]; exact lies_other HRes.out HGe.out.2.2.2)
      replace HB := Lib.hid (show Below w.heap.size w w4 by rw [hw4]; exact below_set HB.out HGe.out.1 _ _)
      clear hw4 r0 r1 r2 r3 r4 r5 r6 fr0 fr1 fr2 fr3 fr4 fr5 fr6
      refine (HP.out _).mono ?_
      rintro e w5 ⟨rfl, hw⟩
      rw [hw]
      clear hw
      have r0 := HRow.out.cell (i := 0) rfl; have fr0 := HRow.out.free 0; have r1 := HRow.out.cell (i := 1) rfl; have fr1 := HRow.out.free 1; have r2 := HRow.out.cell (i := 2) rfl; have fr2 := HRow.out.free 2; have r3 := HRow.out.cell (i := 3) rfl; have fr3 := HRow.out.free 3; have r4 := HRow.out.cell (i := 4) rfl; have fr4 := HRow.out.free 4; have r5 := HRow.out.cell (i := 5) rfl; have fr5 := HRow.out.free 5; have r6 := HRow.out.cell (i := 6) rfl; have fr6 := HRow.out.free 6
      have c0 := HRes.out.cell (i := 0) rfl; have fc0 := HRes.out.free 0; have c1 := HRes.out.cell (i := 1) rfl; have fc1 := HRes.out.free 1; have c2 := HRes.out.cell (i := 2) rfl; have fc2 := HRes.out.free 2; have c3 := HRes.out.cell (i := 3) rfl; have fc3 := HRes.out.free 3; have c4 := HRes.out.cell (i := 4) rfl; have fc4 := HRes.out.free 4; have c5 := HRes.out.cell (i := 5) rfl; have fc5 := HRes.out.free 5; have c6 := HRes.out.cell (i := 6) rfl; have fc6 := HRes.out.free 6
      have hgq := HGe.out
      obtain ⟨_, _, n1, n2⟩ := hgq
      go_wp2
      have HRes2 := HRes.out
      have HB2 := HB.out
      obtain ⟨q1, q2⟩ := put_seven HRes2 rfl (.string (txt n)) (.string (txt v)) (.string ⟨#[]⟩) (.int .i64 a) (.bool se) (.bool ht) (.int .i64 si)
      refine bodyPost_ret (results_cell_one Tryd.results23 _ _ q 23 _ (0, 0) _ rfl q1 Tryd.underlying23 rfl (by kernel_rfl)) rfl ?_
      exact ⟨by rw [HV.out], HB2.trans ((q2.below (Nat.le_of_lt HRes2.lt)).mono HGe.out.2.1)⟩
  rw [decide_eq_false h1] at e1
  by_cases h2 : K = kAge
  · rw [decide_eq_true h2] at e2
    clear e3 e4 e5 HP HI
    by_cases hv : 0 ≤ numberF V
    · skip
      have HV := Lib.hid (show (CookieV.of R).val = .agg #[.string (txt n), .string (txt v), .string (txt p), .int .i64 (numberF V), .bool se, .bool ht, .int .i64 si] by rw [HR.out]; rw [h2, tell_age, if_pos hv]; rfl)
      have tv : ageF V = (numberF V, true) := by unfold ageF; rw [if_pos hv]
      rw [tv] at HN
      obtain ⟨nv, hnv⟩ : ∃ nv, nv = numberF V := ⟨_, rfl⟩
      rw [← hnv] at HN HV
      clear HR h1 h2 hv tv hnv
      go_enter Tryd.func23, Tryd.ntmps23
      go_wp2_with fail
      obtain ⟨W, hW⟩ : ∃ W, W = (w.alloc (.cells #[.string (txt n), .string (txt v), .string (txt p), .int .i64 a, .bool se, .bool ht, .int .i64 si] 23)).alloc (.cells #[.string ⟨#[]⟩, .string ⟨#[]⟩, .string ⟨#[]⟩, .int .i64 0, .bool false, .bool false, .int .i64 0] 23) := ⟨_, rfl⟩
      rw [← hW]
      obtain ⟨g, hg⟩ : ∃ g, g = w.heap.size := ⟨_, rfl⟩
      obtain ⟨q, hq⟩ : ∃ q, q = w.heap.size + 1 := ⟨_, rfl⟩
      have HB := Lib.hid (show Below w.heap.size w W by rw [hW]; exact ((Below.refl _ _).alloc (Nat.le_refl _) _).alloc (by simp) _)
      have HRow := Lib.hid (show Lies W g [.string (txt n), .string (txt v), .string (txt p), .int .i64 a, .bool se, .bool ht, .int .i64 si] 23 by rw [hW, hg]; exact (Lies.new w _ _).below ((Below.refl _ _).alloc (Nat.le_refl _) _))
      have HRes := Lib.hid (show Lies W q [.string ⟨#[]⟩, .string ⟨#[]⟩, .string ⟨#[]⟩, .int .i64 0, .bool false, .bool false, .int .i64 0] 23 by rw [hW, hq]; have h := Lies.new (w.alloc (.cells #[.string (txt n), .string (txt v), .string (txt p), .int .i64 a, .bool se, .bool ht, .int .i64 si] 23)) [.string ⟨#[]⟩, .string ⟨#[]⟩, .string ⟨#[]⟩, .int .i64 0, .bool false, .bool false, .int .i64 0] 23; simpa using h)
      have HGe := Lib.hid (show w.heap.size ≤ g ∧ w.heap.size ≤ q ∧ ¬ g = q ∧ ¬ q = g by omega)
      rw [← hq, ← hg]
      clear hW hg hq
      refine (HA.out _ HB.out).mono ?_
      rintro e w2 ⟨rfl, hb⟩
      replace HRow := Lib.hid (HRow.out.below hb)
      replace HRes := Lib.hid (HRes.out.below hb)
      replace HB := Lib.hid (HB.out.trans (hb.mono HB.out.size))
      clear hb
      go_wp2_with fail
      refine (HS.out _).mono ?_
      rintro e w3 ⟨rfl, hb⟩
      replace HRow := Lib.hid (HRow.out.below hb)
      replace HRes := Lib.hid (HRes.out.below hb)
      replace HB := Lib.hid (HB.out.trans (hb.mono HB.out.size))
      clear hb
      go_wp2_with fail
      refine (HN.out _).mono ?_
      rintro e w2 ⟨rfl, hb⟩
      replace HRow := Lib.hid (HRow.out.below hb)
      replace HRes := Lib.hid (HRes.out.below hb)
      replace HB := Lib.hid (HB.out.trans (hb.mono HB.out.size))
      clear hb
      have r0 := HRow.out.cell (i := 0) rfl; have fr0 := HRow.out.free 0; have r1 := HRow.out.cell (i := 1) rfl; have fr1 := HRow.out.free 1; have r2 := HRow.out.cell (i := 2) rfl; have fr2 := HRow.out.free 2; have r3 := HRow.out.cell (i := 3) rfl; have fr3 := HRow.out.free 3; have r4 := HRow.out.cell (i := 4) rfl; have fr4 := HRow.out.free 4; have r5 := HRow.out.cell (i := 5) rfl; have fr5 := HRow.out.free 5; have r6 := HRow.out.cell (i := 6) rfl; have fr6 := HRow.out.free 6
      have c0 := HRes.out.cell (i := 0) rfl; have fc0 := HRes.out.free 0; have c1 := HRes.out.cell (i := 1) rfl; have fc1 := HRes.out.free 1; have c2 := HRes.out.cell (i := 2) rfl; have fc2 := HRes.out.free 2; have c3 := HRes.out.cell (i := 3) rfl; have fc3 := HRes.out.free 3; have c4 := HRes.out.cell (i := 4) rfl; have fc4 := HRes.out.free 4; have c5 := HRes.out.cell (i := 5) rfl; have fc5 := HRes.out.free 5; have c6 := HRes.out.cell (i := 6) rfl; have fc6 := HRes.out.free 6
      have hgq := HGe.out
      obtain ⟨_, _, n1, n2⟩ := hgq
      go_wp2
      have HRes2 := lies_other (v := .int .i64 nv) (j := 3) HRes.out n2
      have HB2 := below_set HB.out HGe.out.1 3 (.int .i64 nv)
      obtain ⟨q1, q2⟩ := put_seven HRes2 rfl (.string (txt n)) (.string (txt v)) (.string (txt p)) (.int .i64 nv) (.bool se) (.bool ht) (.int .i64 si)
      refine bodyPost_ret (results_cell_one Tryd.results23 _ _ q 23 _ (0, 0) _ rfl q1 Tryd.underlying23 rfl (by kernel_rfl)) rfl ?_
      exact ⟨by rw [HV.out], HB2.trans ((q2.below (Nat.le_of_lt HRes2.lt)).mono HGe.out.2.1)⟩
    · skip
      have HV := Lib.hid (show (CookieV.of R).val = .agg #[.string (txt n), .string (txt v), .string (txt p), .int .i64 a, .bool se, .bool ht, .int .i64 si] by rw [HR.out]; rw [h2, tell_age, if_neg hv]; rfl)
      have tv : ageF V = (0, false) := by unfold ageF; rw [if_neg hv]
      rw [tv] at HN
      clear HR h1 h2 hv tv
      go_enter Tryd.func23, Tryd.ntmps23
      go_wp2_with fail
      obtain ⟨W, hW⟩ : ∃ W, W = (w.alloc (.cells #[.string (txt n), .string (txt v), .string (txt p), .int .i64 a, .bool se, .bool ht, .int .i64 si] 23)).alloc (.cells #[.string ⟨#[]⟩, .string ⟨#[]⟩, .string ⟨#[]⟩, .int .i64 0, .bool false, .bool false, .int .i64 0] 23) := ⟨_, rfl⟩
      rw [← hW]
      obtain ⟨g, hg⟩ : ∃ g, g = w.heap.size := ⟨_, rfl⟩
      obtain ⟨q, hq⟩ : ∃ q, q = w.heap.size + 1 := ⟨_, rfl⟩
      have HB := Lib.hid (show Below w.heap.size w W by rw [hW]; exact ((Below.refl _ _).alloc (Nat.le_refl _) _).alloc (by simp) _)
      have HRow := Lib.hid (show Lies W g [.string (txt n), .string (txt v), .string (txt p), .int .i64 a, .bool se, .bool ht, .int .i64 si] 23 by rw [hW, hg]; exact (Lies.new w _ _).below ((Below.refl _ _).alloc (Nat.le_refl _) _))
      have HRes := Lib.hid (show Lies W q [.string ⟨#[]⟩, .string ⟨#[]⟩, .string ⟨#[]⟩, .int .i64 0, .bool false, .bool false, .int .i64 0] 23 by rw [hW, hq]; have h := Lies.new (w.alloc (.cells #[.string (txt n), .string (txt v), .string (txt p), .int .i64 a, .bool se, .bool ht, .int .i64 si] 23)) [.string ⟨#[]⟩, .string ⟨#[]⟩, .string ⟨#[]⟩, .int .i64 0, .bool false, .bool false, .int .i64 0] 23; simpa using h)
      have HGe := Lib.hid (show w.heap.size ≤ g ∧ w.heap.size ≤ q ∧ ¬ g = q ∧ ¬ q = g by omega)
      rw [← hq, ← hg]
      clear hW hg hq
      refine (HA.out _ HB.out).mono ?_
      rintro e w2 ⟨rfl, hb⟩
      replace HRow := Lib.hid (HRow.out.below hb)
      replace HRes := Lib.hid (HRes.out.below hb)
      replace HB := Lib.hid (HB.out.trans (hb.mono HB.out.size))
      clear hb
      go_wp2_with fail
      refine (HS.out _).mono ?_
      rintro e w3 ⟨rfl, hb⟩
      replace HRow := Lib.hid (HRow.out.below hb)
      replace HRes := Lib.hid (HRes.out.below hb)
      replace HB := Lib.hid (HB.out.trans (hb.mono HB.out.size))
      clear hb
      go_wp2_with fail
      refine (HN.out _).mono ?_
      rintro e w2 ⟨rfl, hb⟩
      replace HRow := Lib.hid (HRow.out.below hb)
      replace HRes := Lib.hid (HRes.out.below hb)
      replace HB := Lib.hid (HB.out.trans (hb.mono HB.out.size))
      clear hb
      have r0 := HRow.out.cell (i := 0) rfl; have fr0 := HRow.out.free 0; have r1 := HRow.out.cell (i := 1) rfl; have fr1 := HRow.out.free 1; have r2 := HRow.out.cell (i := 2) rfl; have fr2 := HRow.out.free 2; have r3 := HRow.out.cell (i := 3) rfl; have fr3 := HRow.out.free 3; have r4 := HRow.out.cell (i := 4) rfl; have fr4 := HRow.out.free 4; have r5 := HRow.out.cell (i := 5) rfl; have fr5 := HRow.out.free 5; have r6 := HRow.out.cell (i := 6) rfl; have fr6 := HRow.out.free 6
      have c0 := HRes.out.cell (i := 0) rfl; have fc0 := HRes.out.free 0; have c1 := HRes.out.cell (i := 1) rfl; have fc1 := HRes.out.free 1; have c2 := HRes.out.cell (i := 2) rfl; have fc2 := HRes.out.free 2; have c3 := HRes.out.cell (i := 3) rfl; have fc3 := HRes.out.free 3; have c4 := HRes.out.cell (i := 4) rfl; have fc4 := HRes.out.free 4; have c5 := HRes.out.cell (i := 5) rfl; have fc5 := HRes.out.free 5; have c6 := HRes.out.cell (i := 6) rfl; have fc6 := HRes.out.free 6
      have hgq := HGe.out
      obtain ⟨_, _, n1, n2⟩ := hgq
      go_wp2
      have HRes2 := HRes.out
      have HB2 := HB.out
      obtain ⟨q1, q2⟩ := put_seven HRes2 rfl (.string (txt n)) (.string (txt v)) (.string (txt p)) (.int .i64 a) (.bool se) (.bool ht) (.int .i64 si)
      refine bodyPost_ret (results_cell_one Tryd.results23 _ _ q 23 _ (0, 0) _ rfl q1 Tryd.underlying23 rfl (by kernel_rfl)) rfl ?_
      exact ⟨by rw [HV.out], HB2.trans ((q2.below (Nat.le_of_lt HRes2.lt)).mono HGe.out.2.1)⟩
  rw [decide_eq_false h2] at e2
  by_cases h3 : K = kSec
  · rw [decide_eq_true h3] at e3
    clear e4 e5 HN HP HI
    have HV := Lib.hid (show (CookieV.of R).val = .agg #[.string (txt n), .string (txt v), .string (txt p), .int .i64 a, .bool true, .bool ht, .int .i64 si] by rw [HR.out]; rw [h3, tell_sec]; rfl)
    clear HR h1 h2 h3
    go_enter Tryd.func23, Tryd.ntmps23
    go_wp2_with fail
    obtain ⟨W, hW⟩ : ∃ W, W = (w.alloc (.cells #[.string (txt n), .string (txt v), .string (txt p), .int .i64 a, .bool se, .bool ht, .int .i64 si] 23)).alloc (.cells #[.string ⟨#[]⟩, .string ⟨#[]⟩, .string ⟨#[]⟩, .int .i64 0, .bool false, .bool false, .int .i64 0] 23) := ⟨_, rfl⟩
    rw [← hW]
    obtain ⟨g, hg⟩ : ∃ g, g = w.heap.size := ⟨_, rfl⟩
    obtain ⟨q, hq⟩ : ∃ q, q = w.heap.size + 1 := ⟨_, rfl⟩
    have HB := Lib.hid (show Below w.heap.size w W by rw [hW]; exact ((Below.refl _ _).alloc (Nat.le_refl _) _).alloc (by simp) _)
    have HRow := Lib.hid (show Lies W g [.string (txt n), .string (txt v), .string (txt p), .int .i64 a, .bool se, .bool ht, .int .i64 si] 23 by rw [hW, hg]; exact (Lies.new w _ _).below ((Below.refl _ _).alloc (Nat.le_refl _) _))
    have HRes := Lib.hid (show Lies W q [.string ⟨#[]⟩, .string ⟨#[]⟩, .string ⟨#[]⟩, .int .i64 0, .bool false, .bool false, .int .i64 0] 23 by rw [hW, hq]; have h := Lies.new (w.alloc (.cells #[.string (txt n), .string (txt v), .string (txt p), .int .i64 a, .bool se, .bool ht, .int .i64 si] 23)) [.string ⟨#[]⟩, .string ⟨#[]⟩, .string ⟨#[]⟩, .int .i64 0, .bool false, .bool false, .int .i64 0] 23; simpa using h)
    have HGe := Lib.hid (show w.heap.size ≤ g ∧ w.heap.size ≤ q ∧ ¬ g = q ∧ ¬ q = g by omega)
    rw [← hq, ← hg]
    clear hW hg hq
    refine (HA.out _ HB.out).mono ?_
    rintro e w2 ⟨rfl, hb⟩
    replace HRow := Lib.hid (HRow.out.below hb)
    replace HRes := Lib.hid (HRes.out.below hb)
    replace HB := Lib.hid (HB.out.trans (hb.mono HB.out.size))
    clear hb
    go_wp2_with fail
    refine (HS.out _).mono ?_
    rintro e w3 ⟨rfl, hb⟩
    replace HRow := Lib.hid (HRow.out.below hb)
    replace HRes := Lib.hid (HRes.out.below hb)
    replace HB := Lib.hid (HB.out.trans (hb.mono HB.out.size))
    clear hb
    have r0 := HRow.out.cell (i := 0) rfl; have fr0 := HRow.out.free 0; have r1 := HRow.out.cell (i := 1) rfl; have fr1 := HRow.out.free 1; have r2 := HRow.out.cell (i := 2) rfl; have fr2 := HRow.out.free 2; have r3 := HRow.out.cell (i := 3) rfl; have fr3 := HRow.out.free 3; have r4 := HRow.out.cell (i := 4) rfl; have fr4 := HRow.out.free 4; have r5 := HRow.out.cell (i := 5) rfl; have fr5 := HRow.out.free 5; have r6 := HRow.out.cell (i := 6) rfl; have fr6 := HRow.out.free 6
    have c0 := HRes.out.cell (i := 0) rfl; have fc0 := HRes.out.free 0; have c1 := HRes.out.cell (i := 1) rfl; have fc1 := HRes.out.free 1; have c2 := HRes.out.cell (i := 2) rfl; have fc2 := HRes.out.free 2; have c3 := HRes.out.cell (i := 3) rfl; have fc3 := HRes.out.free 3; have c4 := HRes.out.cell (i := 4) rfl; have fc4 := HRes.out.free 4; have c5 := HRes.out.cell (i := 5) rfl; have fc5 := HRes.out.free 5; have c6 := HRes.out.cell (i := 6) rfl; have fc6 := HRes.out.free 6
    have hgq := HGe.out
    obtain ⟨_, _, n1, n2⟩ := hgq
    go_wp2
    have HRes2 := lies_other (v := .bool true) (j := 4) HRes.out n2
    have HB2 := below_set HB.out HGe.out.1 4 (.bool true)
    obtain ⟨q1, q2⟩ := put_seven HRes2 rfl (.string (txt n)) (.string (txt v)) (.string (txt p)) (.int .i64 a) (.bool true) (.bool ht) (.int .i64 si)
    refine bodyPost_ret (results_cell_one Tryd.results23 _ _ q 23 _ (0, 0) _ rfl q1 Tryd.underlying23 rfl (by kernel_rfl)) rfl ?_
    exact ⟨by rw [HV.out], HB2.trans ((q2.below (Nat.le_of_lt HRes2.lt)).mono HGe.out.2.1)⟩
  rw [decide_eq_false h3] at e3
  by_cases h4 : K = kHttp
  · rw [decide_eq_true h4] at e4
    clear e5 HN HP HI
    have HV := Lib.hid (show (CookieV.of R).val = .agg #[.string (txt n), .string (txt v), .string (txt p), .int .i64 a, .bool se, .bool true, .int .i64 si] by rw [HR.out]; rw [h4, tell_http]; rfl)
    clear HR h1 h2 h3 h4
    go_enter Tryd.func23, Tryd.ntmps23
    go_wp2_with fail
    obtain ⟨W, hW⟩ : ∃ W, W = (w.alloc (.cells #[.string (txt n), .string (txt v), .string (txt p), .int .i64 a, .bool se, .bool ht, .int .i64 si] 23)).alloc (.cells #[.string ⟨#[]⟩, .string ⟨#[]⟩, .string ⟨#[]⟩, .int .i64 0, .bool false, .bool false, .int .i64 0] 23) := ⟨_, rfl⟩
    rw [← hW]
    obtain ⟨g, hg⟩ : ∃ g, g = w.heap.size := ⟨_, rfl⟩
    obtain ⟨q, hq⟩ : ∃ q, q = w.heap.size + 1 := ⟨_, rfl⟩
    have HB := Lib.hid (show Below w.heap.size w W by rw [hW]; exact ((Below.refl _ _).alloc (Nat.le_refl _) _).alloc (by simp) _)
    have HRow := Lib.hid (show Lies W g [.string (txt n), .string (txt v), .string (txt p), .int .i64 a, .bool se, .bool ht, .int .i64 si] 23 by rw [hW, hg]; exact (Lies.new w _ _).below ((Below.refl _ _).alloc (Nat.le_refl _) _))
    have HRes := Lib.hid (show Lies W q [.string ⟨#[]⟩, .string ⟨#[]⟩, .string ⟨#[]⟩, .int .i64 0, .bool false, .bool false, .int .i64 0] 23 by rw [hW, hq]; have h := Lies.new (w.alloc (.cells #[.string (txt n), .string (txt v), .string (txt p), .int .i64 a, .bool se, .bool ht, .int .i64 si] 23)) [.string ⟨#[]⟩, .string ⟨#[]⟩, .string ⟨#[]⟩, .int .i64 0, .bool false, .bool false, .int .i64 0] 23; simpa using h)
    have HGe := Lib.hid (show w.heap.size ≤ g ∧ w.heap.size ≤ q ∧ ¬ g = q ∧ ¬ q = g by omega)
    rw [← hq, ← hg]
    clear hW hg hq
    refine (HA.out _ HB.out).mono ?_
    rintro e w2 ⟨rfl, hb⟩
    replace HRow := Lib.hid (HRow.out.below hb)
    replace HRes := Lib.hid (HRes.out.below hb)
    replace HB := Lib.hid (HB.out.trans (hb.mono HB.out.size))
    clear hb
    go_wp2_with fail
    refine (HS.out _).mono ?_
    rintro e w3 ⟨rfl, hb⟩
    replace HRow := Lib.hid (HRow.out.below hb)
    replace HRes := Lib.hid (HRes.out.below hb)
    replace HB := Lib.hid (HB.out.trans (hb.mono HB.out.size))
    clear hb
    have r0 := HRow.out.cell (i := 0) rfl; have fr0 := HRow.out.free 0; have r1 := HRow.out.cell (i := 1) rfl; have fr1 := HRow.out.free 1; have r2 := HRow.out.cell (i := 2) rfl; have fr2 := HRow.out.free 2; have r3 := HRow.out.cell (i := 3) rfl; have fr3 := HRow.out.free 3; have r4 := HRow.out.cell (i := 4) rfl; have fr4 := HRow.out.free 4; have r5 := HRow.out.cell (i := 5) rfl; have fr5 := HRow.out.free 5; have r6 := HRow.out.cell (i := 6) rfl; have fr6 := HRow.out.free 6
    have c0 := HRes.out.cell (i := 0) rfl; have fc0 := HRes.out.free 0; have c1 := HRes.out.cell (i := 1) rfl; have fc1 := HRes.out.free 1; have c2 := HRes.out.cell (i := 2) rfl; have fc2 := HRes.out.free 2; have c3 := HRes.out.cell (i := 3) rfl; have fc3 := HRes.out.free 3; have c4 := HRes.out.cell (i := 4) rfl; have fc4 := HRes.out.free 4; have c5 := HRes.out.cell (i := 5) rfl; have fc5 := HRes.out.free 5; have c6 := HRes.out.cell (i := 6) rfl; have fc6 := HRes.out.free 6
    have hgq := HGe.out
    obtain ⟨_, _, n1, n2⟩ := hgq
    go_wp2
    have HRes2 := lies_other (v := .bool true) (j := 5) HRes.out n2
    have HB2 := below_set HB.out HGe.out.1 5 (.bool true)
    obtain ⟨q1, q2⟩ := put_seven HRes2 rfl (.string (txt n)) (.string (txt v)) (.string (txt p)) (.int .i64 a) (.bool se) (.bool true) (.int .i64 si)
    refine bodyPost_ret (results_cell_one Tryd.results23 _ _ q 23 _ (0, 0) _ rfl q1 Tryd.underlying23 rfl (by kernel_rfl)) rfl ?_
    exact ⟨by rw [HV.out], HB2.trans ((q2.below (Nat.le_of_lt HRes2.lt)).mono HGe.out.2.1)⟩
  rw [decide_eq_false h4] at e4
  by_cases h5 : K = kSite
  · rw [decide_eq_true h5] at e5
    clear HN HP
    obtain ⟨sv, hsv⟩ : ∃ sv, sv = siteOf V := ⟨_, rfl⟩
    rw [← hsv] at HI
    have HV := Lib.hid (show (CookieV.of R).val = .agg #[.string (txt n), .string (txt v), .string (txt p), .int .i64 a, .bool se, .bool ht, .int .i64 sv] by rw [HR.out]; rw [h5, tell_site, hsv]; rfl)
    clear HR hsv h1 h2 h3 h4 h5
    go_enter Tryd.func23, Tryd.ntmps23
    go_wp2_with fail
    obtain ⟨W, hW⟩ : ∃ W, W = (w.alloc (.cells #[.string (txt n), .string (txt v), .string (txt p), .int .i64 a, .bool se, .bool ht, .int .i64 si] 23)).alloc (.cells #[.string ⟨#[]⟩, .string ⟨#[]⟩, .string ⟨#[]⟩, .int .i64 0, .bool false, .bool false, .int .i64 0] 23) := ⟨_, rfl⟩
    rw [← hW]
    obtain ⟨g, hg⟩ : ∃ g, g = w.heap.size := ⟨_, rfl⟩
    obtain ⟨q, hq⟩ : ∃ q, q = w.heap.size + 1 := ⟨_, rfl⟩
    have HB := Lib.hid (show Below w.heap.size w W by rw [hW]; exact ((Below.refl _ _).alloc (Nat.le_refl _) _).alloc (by simp) _)
    have HRow := Lib.hid (show Lies W g [.string (txt n), .string (txt v), .string (txt p), .int .i64 a, .bool se, .bool ht, .int .i64 si] 23 by rw [hW, hg]; exact (Lies.new w _ _).below ((Below.refl _ _).alloc (Nat.le_refl _) _))
    have HRes := Lib.hid (show Lies W q [.string ⟨#[]⟩, .string ⟨#[]⟩, .string ⟨#[]⟩, .int .i64 0, .bool false, .bool false, .int .i64 0] 23 by rw [hW, hq]; have h := Lies.new (w.alloc (.cells #[.string (txt n), .string (txt v), .string (txt p), .int .i64 a, .bool se, .bool ht, .int .i64 si] 23)) [.string ⟨#[]⟩, .string ⟨#[]⟩, .string ⟨#[]⟩, .int .i64 0, .bool false, .bool false, .int .i64 0] 23; simpa using h)
    have HGe := Lib.hid (show w.heap.size ≤ g ∧ w.heap.size ≤ q ∧ ¬ g = q ∧ ¬ q = g by omega)
    rw [← hq, ← hg]
    clear hW hg hq
    refine (HA.out _ HB.out).mono ?_
    rintro e w2 ⟨rfl, hb⟩
    replace HRow := Lib.hid (HRow.out.below hb)
    replace HRes := Lib.hid (HRes.out.below hb)
    replace HB := Lib.hid (HB.out.trans (hb.mono HB.out.size))
    clear hb
    go_wp2_with fail
    refine (HS.out _).mono ?_
    rintro e w3 ⟨rfl, hb⟩
    replace HRow := Lib.hid (HRow.out.below hb)
    replace HRes := Lib.hid (HRes.out.below hb)
    replace HB := Lib.hid (HB.out.trans (hb.mono HB.out.size))
    clear hb
    go_wp2_with fail
    refine (HI.out _).mono ?_
    rintro e w2 ⟨rfl, hb⟩
    replace HRow := Lib.hid (HRow.out.below hb)
    replace HRes := Lib.hid (HRes.out.below hb)
    replace HB := Lib.hid (HB.out.trans (hb.mono HB.out.size))
    clear hb
    have r0 := HRow.out.cell (i := 0) rfl; have fr0 := HRow.out.free 0; have r1 := HRow.out.cell (i := 1) rfl; have fr1 := HRow.out.free 1; have r2 := HRow.out.cell (i := 2) rfl; have fr2 := HRow.out.free 2; have r3 := HRow.out.cell (i := 3) rfl; have fr3 := HRow.out.free 3; have r4 := HRow.out.cell (i := 4) rfl; have fr4 := HRow.out.free 4; have r5 := HRow.out.cell (i := 5) rfl; have fr5 := HRow.out.free 5; have r6 := HRow.out.cell (i := 6) rfl; have fr6 := HRow.out.free 6
    have c0 := HRes.out.cell (i := 0) rfl; have fc0 := HRes.out.free 0; have c1 := HRes.out.cell (i := 1) rfl; have fc1 := HRes.out.free 1; have c2 := HRes.out.cell (i := 2) rfl; have fc2 := HRes.out.free 2; have c3 := HRes.out.cell (i := 3) rfl; have fc3 := HRes.out.free 3; have c4 := HRes.out.cell (i := 4) rfl; have fc4 := HRes.out.free 4; have c5 := HRes.out.cell (i := 5) rfl; have fc5 := HRes.out.free 5; have c6 := HRes.out.cell (i := 6) rfl; have fc6 := HRes.out.free 6
    have hgq := HGe.out
    obtain ⟨_, _, n1, n2⟩ := hgq
    go_wp2
    have HRes2 := lies_other (v := .int .i64 sv) (j := 6) HRes.out n2
    have HB2 := below_set HB.out HGe.out.1 6 (.int .i64 sv)
    obtain ⟨q1, q2⟩ := put_seven HRes2 rfl (.string (txt n)) (.string (txt v)) (.string (txt p)) (.int .i64 a) (.bool se) (.bool ht) (.int .i64 sv)
    refine bodyPost_ret (results_cell_one Tryd.results23 _ _ q 23 _ (0, 0) _ rfl q1 Tryd.underlying23 rfl (by kernel_rfl)) rfl ?_
    exact ⟨by rw [HV.out], HB2.trans ((q2.below (Nat.le_of_lt HRes2.lt)).mono HGe.out.2.1)⟩
  rw [decide_eq_false h5] at e5
  have HV := Lib.hid (show (CookieV.of R).val = .agg #[.string (txt n), .string (txt v), .string (txt p), .int .i64 a, .bool se, .bool ht, .int .i64 si] by rw [HR.out]; rw [tell_other h1 h2 h3 h4 h5]; rfl)
  clear HR h1 h2 h3 h4 h5
  go_enter Tryd.func23, Tryd.ntmps23
  go_wp2_with fail
  obtain ⟨W, hW⟩ : ∃ W, W = (w.alloc (.cells #[.string (txt n), .string (txt v), .string (txt p), .int .i64 a, .bool se, .bool ht, .int .i64 si] 23)).alloc (.cells #[.string ⟨#[]⟩, .string ⟨#[]⟩, .string ⟨#[]⟩, .int .i64 0, .bool false, .bool false, .int .i64 0] 23) := ⟨_, rfl⟩
  rw [← hW]
  obtain ⟨g, hg⟩ : ∃ g, g = w.heap.size := ⟨_, rfl⟩
  obtain ⟨q, hq⟩ : ∃ q, q = w.heap.size + 1 := ⟨_, rfl⟩
  have HB := Lib.hid (show Below w.heap.size w W by rw [hW]; exact ((Below.refl _ _).alloc (Nat.le_refl _) _).alloc (by simp) _)
  have HRow := Lib.hid (show Lies W g [.string (txt n), .string (txt v), .string (txt p), .int .i64 a, .bool se, .bool ht, .int .i64 si] 23 by rw [hW, hg]; exact (Lies.new w _ _).below ((Below.refl _ _).alloc (Nat.le_refl _) _))
  have HRes := Lib.hid (show Lies W q [.string ⟨#[]⟩, .string ⟨#[]⟩, .string ⟨#[]⟩, .int .i64 0, .bool false, .bool false, .int .i64 0] 23 by rw [hW, hq]; have h := Lies.new (w.alloc (.cells #[.string (txt n), .string (txt v), .string (txt p), .int .i64 a, .bool se, .bool ht, .int .i64 si] 23)) [.string ⟨#[]⟩, .string ⟨#[]⟩, .string ⟨#[]⟩, .int .i64 0, .bool false, .bool false, .int .i64 0] 23; simpa using h)
  have HGe := Lib.hid (show w.heap.size ≤ g ∧ w.heap.size ≤ q ∧ ¬ g = q ∧ ¬ q = g by omega)
  rw [← hq, ← hg]
  clear hW hg hq
  refine (HA.out _ HB.out).mono ?_
  rintro e w2 ⟨rfl, hb⟩
  replace HRow := Lib.hid (HRow.out.below hb)
  replace HRes := Lib.hid (HRes.out.below hb)
  replace HB := Lib.hid (HB.out.trans (hb.mono HB.out.size))
  clear hb
  go_wp2_with fail
  refine (HS.out _).mono ?_
  rintro e w3 ⟨rfl, hb⟩
  replace HRow := Lib.hid (HRow.out.below hb)
  replace HRes := Lib.hid (HRes.out.below hb)
  replace HB := Lib.hid (HB.out.trans (hb.mono HB.out.size))
  clear hb
  have r0 := HRow.out.cell (i := 0) rfl; have fr0 := HRow.out.free 0; have r1 := HRow.out.cell (i := 1) rfl; have fr1 := HRow.out.free 1; have r2 := HRow.out.cell (i := 2) rfl; have fr2 := HRow.out.free 2; have r3 := HRow.out.cell (i := 3) rfl; have fr3 := HRow.out.free 3; have r4 := HRow.out.cell (i := 4) rfl; have fr4 := HRow.out.free 4; have r5 := HRow.out.cell (i := 5) rfl; have fr5 := HRow.out.free 5; have r6 := HRow.out.cell (i := 6) rfl; have fr6 := HRow.out.free 6
  have c0 := HRes.out.cell (i := 0) rfl; have fc0 := HRes.out.free 0; have c1 := HRes.out.cell (i := 1) rfl; have fc1 := HRes.out.free 1; have c2 := HRes.out.cell (i := 2) rfl; have fc2 := HRes.out.free 2; have c3 := HRes.out.cell (i := 3) rfl; have fc3 := HRes.out.free 3; have c4 := HRes.out.cell (i := 4) rfl; have fc4 := HRes.out.free 4; have c5 := HRes.out.cell (i := 5) rfl; have fc5 := HRes.out.free 5; have c6 := HRes.out.cell (i := 6) rfl; have fc6 := HRes.out.free 6
  have hgq := HGe.out
  obtain ⟨_, _, n1, n2⟩ := hgq
  go_wp2
  have HRes2 := HRes.out
  have HB2 := HB.out
  obtain ⟨q1, q2⟩ := put_seven HRes2 rfl (.string (txt n)) (.string (txt v)) (.string (txt p)) (.int .i64 a) (.bool se) (.bool ht) (.int .i64 si)
  refine bodyPost_ret (results_cell_one Tryd.results23 _ _ q 23 _ (0, 0) _ rfl q1 Tryd.underlying23 rfl (by kernel_rfl)) rfl ?_
  exact ⟨by rw [HV.out], HB2.trans ((q2.below (Nat.le_of_lt HRes2.lt)).mono HGe.out.2.1)⟩
end Go.Proofs.YtlgofepmdjlpgaaDoor
