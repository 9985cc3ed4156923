/-
  The contracts of chapter 14's program, whole: Write and Parse. The conditions: cookies and texts as the contracts bound them; unicode/utf8's tables and the table of powers of ten as Go's text lays them.
-/
import Derived.Test.YtlgofepmdjlpgaaDoorBakeWith
import Derived.Test.YtlgofepmdjlpgaaDoorBakeP6
import Derived.Test.YtlgofepmdjlpgaaDoorPart04
import Derived.Test.YtlgofepmdjlpgaaDoorResults
import Derived.Deep.CutBlock
namespace Go.Proofs.YtlgofepmdjlpgaaDoor
open Go.RowKit TextNat BakeMath

/-- What the program asks of the library's tables. -/
def TabsB (w : World) : Prop := Tabs w ∧ Pows w
theorem tabsUp : Up TabsB := fun _ _ h hb => ⟨h.1.below hb, h.2.below hb⟩
theorem chain_but_cookie {w w' : World} {b B B' : Nat} {l : List Value} {T : TypeId} {v0 : Value} {u1 : ByteArray} (hb : But b w w') (hrow : Lies w b (v0 :: .string u1 :: l) T) (hB : B ≤ B') : ∀ {ws : List Wrap} {last v : Value}, Chain B w ws last v → Chain B' w' ws last v
  | [], _, _, h => h
  | _ :: _, _, _, ⟨q, u, h1, h2, h3, h4, h5, h6⟩ => by
    have hne : q ≠ b := fun e => by
      subst e
      have := hrow.cell (i := 1) rfl
      rw [h4] at this
      cases this
    exact ⟨q, u, h1, Nat.lt_of_lt_of_le h2 hB, (hb.cell (cell_lt h3) hne).trans h3, (hb.cell (cell_lt h4) hne).trans h4, (hb.cell (cell_lt h5) hne).trans h5, chain_but_cookie hb hrow hB h6⟩
theorem err_but_cookie {w w' : World} {b : Nat} {l : List Value} {T : TypeId} {v0 x : Value} {u1 : ByteArray} {c : Int} (h : ErrIs w c x) (hb : But b w w') (hrow : Lies w b (v0 :: .string u1 :: l) T) : ErrIs w' c x := by
  obtain ⟨ws, h⟩ := h
  exact ⟨ws, chain_but_cookie hb hrow hb.size h⟩
abbrev bakename : ByteArray := ⟨#[98, 97, 107, 101]⟩
theorem bake_err (c : Int) (w : World) : Calls Tryd.prog 14 #[.string bakename, .int .i64 0, .iface 32 (.int .i64 c)] w fun e w' => (∃ x, e = .returned x ∧ ErrIs w' c x) ∧ Below w.heap.size w w' := by
  refine (at_chain bakename 0 [] c _ w rfl).mono ?_
  rintro e w' ⟨r, rfl, h, hb⟩
  exact ⟨⟨r, rfl, ⟨_, h⟩⟩, hb⟩
set_option maxRecDepth 100000 in
set_option maxHeartbeats 8000000 in
theorem pwriteNot (x : CookieV) (w : World) (hs : x.short) (hr : rightT x.t = false) :
    Calls Tryd.prog 7 #[x.val] w fun e w' => (∃ r, e = .returned (.tuple #[.string ⟨#[]⟩, r]) ∧ ErrIs w' 1 r) ∧ Below w.heap.size w w' := by
  have HQ := Lib.hid (fun w => pright x w hs)
  rw [hr] at HQ
  have HE := Lib.hid (fun w => bake_err 1 w)
  obtain ⟨nm, vl, pt, ag, sc, ht, st⟩ := x
  simp only [CookieV.val] at *
  have HRow := Lib.hid (show Lies (w.alloc (.cells #[.string nm, .string vl, .string pt, .int .i64 ag, .bool sc, .bool ht, .int .i64 st] 23)) w.heap.size [.string nm, .string vl, .string pt, .int .i64 ag, .bool sc, .bool ht, .int .i64 st] 23 from Lies.new w _ _)
  have HB := Lib.hid (show Below w.heap.size w (w.alloc (.cells #[.string nm, .string vl, .string pt, .int .i64 ag, .bool sc, .bool ht, .int .i64 st] 23)) from (Below.refl _ _).alloc (Nat.le_refl _) _)
  have c0 := HRow.out.cell (i := 0) rfl; have c1 := HRow.out.cell (i := 1) rfl; have c2 := HRow.out.cell (i := 2) rfl; have c3 := HRow.out.cell (i := 3) rfl; have c4 := HRow.out.cell (i := 4) rfl; have c5 := HRow.out.cell (i := 5) rfl; have c6 := HRow.out.cell (i := 6) rfl
  go_enter Tryd.func7, Tryd.ntmps7
  go_wp2_with fail
  refine (HQ.out _).mono ?_
  rintro e W ⟨rfl, hb⟩
  replace HB := Lib.hid (HB.out.trans (hb.mono HB.out.size))
  clear hb c0 c1 c2 c3 c4 c5 c6 HRow
  go_wp2_with fail
  refine (HE.out _).mono ?_
  rintro e w3 ⟨⟨r, rfl, hx⟩, hb⟩
  have HX := Lib.hid hx
  replace HB := Lib.hid (HB.out.trans (hb.mono HB.out.size))
  clear hx hb
  go_wp2
  go_ret2
  exact ⟨⟨r, rfl, HX.out⟩, HB.out⟩
theorem writeOk : WriteOk TabsB := by
  intro x w hT hs _
  by_cases hr : rightT x.t = true
  · refine (pwriteOk x w hs hr hT.2).mono ?_
    rintro e w' ⟨rfl, hb⟩
    refine ⟨?_, hb⟩
    unfold WriteIs
    rw [if_pos hr]
  · refine (pwriteNot x w hs (by simpa using hr)).mono ?_
    rintro e w' ⟨h, hb⟩
    refine ⟨?_, hb⟩
    unfold WriteIs
    rw [if_neg hr]
    exact h
set_option maxRecDepth 100000 in
set_option maxHeartbeats 16000000 in
theorem parseOk : ParseOk TabsB := by
  intro s w hT hs
  obtain ⟨l, hl⟩ : ∃ l, l = nats s := ⟨_, rfl⟩
  have hlb : ∀ b ∈ l, b < 256 := by rw [hl]; exact nats_lt s
  have hll : l.length ≤ 10000 := by rw [hl, nats_len]; exact hs
  have hst : s = txt l := by rw [hl, txt_nats]
  subst hst
  have HF := Lib.hid ((congrArg parseF (nats_txt l hlb)).trans (parse_eq l))
  clear hl hs
  obtain ⟨q1, q2, q3⟩ := cutAt_len 59 l
  obtain ⟨q4, q5⟩ := cutAt_mem 59 l
  have hU1 := fun w => cut_semi (txt l) w (by rw [txt_len]; omega)
  rw [nats_txt l hlb] at hU1
  have HU1 := Lib.hid hU1
  clear hU1
  obtain ⟨fi, hfi⟩ : ∃ fi, fi = (cutAt 59 l).1 := ⟨_, rfl⟩
  obtain ⟨re, hre⟩ : ∃ re, re = (cutAt 59 l).2.1 := ⟨_, rfl⟩
  obtain ⟨mo, hmo⟩ : ∃ mo, mo = (cutAt 59 l).2.2 := ⟨_, rfl⟩
  rw [← hfi] at q1 q4
  rw [← hre] at q2 q5
  rw [← hfi, ← hre, ← hmo] at HU1 HF
  have hfb : ∀ b ∈ fi, b < 256 := fun b hb => hlb b (q4 b hb)
  have hrb : ∀ b ∈ re, b < 256 := fun b hb => hlb b (q5 b hb)
  have hrl : re.length ≤ 10000 := by omega
  have hU2 := fun w2 (hb : Below w.heap.size w w2) => phalves (txt fi) w2 (by rw [txt_len]; omega) (fun w3 hb3 => (hT.1.below hb).below hb3)
  rw [nats_txt fi hfb] at hU2
  have HU2 := Lib.hid hU2
  clear hU2
  obtain ⟨p4, p5⟩ := cutAt_mem 61 fi
  obtain ⟨n, hn⟩ : ∃ n, n = TextMath.trim (cutAt 61 fi).1 := ⟨_, rfl⟩
  obtain ⟨v, hv⟩ : ∃ v, v = TextMath.trim (cutAt 61 fi).2.1 := ⟨_, rfl⟩
  obtain ⟨ok, hok⟩ : ∃ ok, ok = (cutAt 61 fi).2.2 := ⟨_, rfl⟩
  rw [← hn, ← hv, ← hok] at HU2 HF
  have HRb := Lib.hid hrb
  have HTw := Lib.hid hT
  have HE := Lib.hid (fun w => bake_err 2 w)
  have HW := Lib.hid (fun (n v p : List Nat) (a : Int) (se ht : Bool) (si : Int) (at_ : List Nat) (w2 : World) (hb : Below w.heap.size w w2) (h1 : ∀ b ∈ at_, b < 256) (h2 : at_.length ≤ 10000) => by
    have h := pwith n v p a se ht si (txt at_) w2 (by rw [txt_len]; exact h2) (fun w3 hb3 => (hT.1.below hb).below hb3)
    rw [nats_txt at_ h1] at h
    exact h)
  clear hfi hre hmo q1 q2 q3 q4 q5 hlb hll hfb p4 p5 hok hn hv hrb hT
  go_enter Tryd.func10, Tryd.ntmps10
  go_wp2_with fail
  obtain ⟨W, hW⟩ : ∃ W, W = w.alloc (.cells #[.string ⟨#[]⟩, .string ⟨#[]⟩, .string ⟨#[]⟩, .int .i64 0, .bool false, .bool false, .int .i64 0] 23) := ⟨_, rfl⟩
  rw [← hW]
  have HB := Lib.hid (show Below w.heap.size w W by rw [hW]; exact (Below.refl _ _).alloc (Nat.le_refl _) _)
  have HRes := Lib.hid (show Lies W w.heap.size [.string ⟨#[]⟩, .string ⟨#[]⟩, .string ⟨#[]⟩, .int .i64 0, .bool false, .bool false, .int .i64 0] 23 by rw [hW]; exact Lies.new w _ _)
  clear hW
  refine (HU1.out W).mono ?_
  rintro e w1 ⟨rfl, hb⟩
  replace HRes := Lib.hid (HRes.out.below hb)
  replace HB := Lib.hid (HB.out.trans (hb.mono HB.out.size))
  clear hb
  go_wp2_with fail
  refine (HU2.out w1 HB.out).mono ?_
  rintro e w2 ⟨rfl, hb⟩
  replace HRes := Lib.hid (HRes.out.below hb)
  replace HB := Lib.hid (HB.out.trans (hb.mono HB.out.size))
  clear hb HU2
  by_cases hbad : ok = false ∨ n = []
  · have HN := Lib.hid (show parseF (nats (txt l)) = none by rw [HF.out, if_pos hbad])
    clear HF HW
    have e0 : ok = true → (txt n).toList.isEmpty = true := fun h => by
      rcases hbad with h2 | h2
      · rw [h] at h2; cases h2
      · exact none_list (by rw [h2]; rfl)
    cases ok with
    | false =>
      clear e0 hbad
      go_wp2_with fail
      refine (HE.out _).mono ?_
      rintro e w3 ⟨⟨r, rfl, hx⟩, hb⟩
      have HX := Lib.hid hx
      replace HRes := Lib.hid (HRes.out.below hb)
      replace HB := Lib.hid (HB.out.trans (hb.mono HB.out.size))
      clear hx hb
      have c0 := HRes.out.cell (i := 0) rfl; have g0 := HRes.out.free 0; have c1 := HRes.out.cell (i := 1) rfl; have g1 := HRes.out.free 1; have c2 := HRes.out.cell (i := 2) rfl; have g2 := HRes.out.free 2; have c3 := HRes.out.cell (i := 3) rfl; have g3 := HRes.out.free 3; have c4 := HRes.out.cell (i := 4) rfl; have g4 := HRes.out.free 4; have c5 := HRes.out.cell (i := 5) rfl; have g5 := HRes.out.free 5; have c6 := HRes.out.cell (i := 6) rfl; have g6 := HRes.out.free 6
      go_wp2
      obtain ⟨q1, q2⟩ := put_seven HRes.out rfl (.string ⟨#[]⟩) (.string ⟨#[]⟩) (.string ⟨#[]⟩) (.int .i64 0) (.bool false) (.bool false) (.int .i64 0)
      refine bodyPost_ret (results_cell_tmp Tryd.results10 _ _ w.heap.size 23 _ (0, 0) _ rfl q1 Tryd.underlying23 rfl (by kernel_rfl)) rfl ?_
      exact ⟨by unfold ParseIs; rw [HN.out]; exact ⟨r, rfl, err_but_cookie HX.out q2 HRes.out⟩, HB.out.trans (q2.below HB.out.size)⟩
    | true =>
      replace e0 := e0 rfl
      clear hbad
      go_wp2_with fail
      refine (HE.out _).mono ?_
      rintro e w3 ⟨⟨r, rfl, hx⟩, hb⟩
      have HX := Lib.hid hx
      replace HRes := Lib.hid (HRes.out.below hb)
      replace HB := Lib.hid (HB.out.trans (hb.mono HB.out.size))
      clear hx hb
      have c0 := HRes.out.cell (i := 0) rfl; have g0 := HRes.out.free 0; have c1 := HRes.out.cell (i := 1) rfl; have g1 := HRes.out.free 1; have c2 := HRes.out.cell (i := 2) rfl; have g2 := HRes.out.free 2; have c3 := HRes.out.cell (i := 3) rfl; have g3 := HRes.out.free 3; have c4 := HRes.out.cell (i := 4) rfl; have g4 := HRes.out.free 4; have c5 := HRes.out.cell (i := 5) rfl; have g5 := HRes.out.free 5; have c6 := HRes.out.cell (i := 6) rfl; have g6 := HRes.out.free 6
      go_wp2
      obtain ⟨q1, q2⟩ := put_seven HRes.out rfl (.string ⟨#[]⟩) (.string ⟨#[]⟩) (.string ⟨#[]⟩) (.int .i64 0) (.bool false) (.bool false) (.int .i64 0)
      refine bodyPost_ret (results_cell_tmp Tryd.results10 _ _ w.heap.size 23 _ (0, 0) _ rfl q1 Tryd.underlying23 rfl (by kernel_rfl)) rfl ?_
      exact ⟨by unfold ParseIs; rw [HN.out]; exact ⟨r, rfl, err_but_cookie HX.out q2 HRes.out⟩, HB.out.trans (q2.below HB.out.size)⟩
  have HS := Lib.hid (show parseF (nats (txt l)) = some ((left mo re).foldl BakeMath.step ⟨n, v, [], -1, false, false, 0⟩) by rw [HF.out, if_neg hbad])
  simp only [not_or, Bool.not_eq_false] at hbad
  obtain ⟨rfl, hne⟩ := hbad
  obtain ⟨F, hF⟩ : ∃ F, F = (left mo re).foldl BakeMath.step ⟨n, v, [], -1, false, false, 0⟩ := ⟨_, rfl⟩
  rw [← hF] at HS
  have HFo := Lib.hid hF.symm
  have e0 : (txt n).toList.isEmpty = false := some_list fun e => hne (by
    have h := congrArg ByteArray.size e
    rw [txt_len] at h
    exact List.length_eq_zero_iff.1 h)
  clear HF hF hne HE
  have HLt := Lib.hid (show w.heap.size < w2.heap.size from HRes.out.lt)
  have HRow := Lib.hid (show Lies (w2.alloc (.cells #[.string (txt n), .string (txt v), .string ⟨#[]⟩, .int .i64 (-1), .bool false, .bool false, .int .i64 0] 23)) w2.heap.size [.string (txt n), .string (txt v), .string ⟨#[]⟩, .int .i64 (-1), .bool false, .bool false, .int .i64 0] 23 from Lies.new w2 _ _)
  have hb : Below w2.heap.size w2 (w2.alloc (.cells #[.string (txt n), .string (txt v), .string ⟨#[]⟩, .int .i64 (-1), .bool false, .bool false, .int .i64 0] 23)) := (Below.refl _ _).alloc (Nat.le_refl _) _
  replace HRes := Lib.hid (HRes.out.below hb)
  replace HB := Lib.hid (HB.out.trans (hb.mono HB.out.size))
  clear hb
  go_wp2_with fail
  obtain ⟨W3, hW3⟩ : ∃ W3, W3 = w2.alloc (.cells #[.string (txt n), .string (txt v), .string ⟨#[]⟩, .int .i64 (-1), .bool false, .bool false, .int .i64 0] 23) := ⟨_, rfl⟩
  rw [← hW3] at HRow HRes HB ⊢
  obtain ⟨gc, hgc⟩ : ∃ gc, gc = w2.heap.size := ⟨_, rfl⟩
  rw [← hgc] at HRow HLt ⊢
  clear hW3 hgc e0 HU1
  have HL0 : re.length ≤ 10000 := hrl
  go_loopg [5, 6] (if mo = true then re.length + 1 else 0) (fun gh s5 s6 wx => ∃ (re : List Nat) (mo : Bool) (n v p : List Nat) (a : Int) (se ht : Bool) (si : Int), s5 = .string (txt re) ∧ s6 = .bool mo ∧ gh = (if mo = true then re.length + 1 else 0) ∧ Hid (∀ b ∈ re, b < 256) ∧ re.length ≤ 10000 ∧ Hid ((left mo re).foldl BakeMath.step ⟨n, v, p, a, se, ht, si⟩ = F) ∧ Hid (Lies wx gc [.string (txt n), .string (txt v), .string (txt p), .int .i64 a, .bool se, .bool ht, .int .i64 si] 23) ∧ Hid (Lies wx w.heap.size [.string ⟨#[]⟩, .string ⟨#[]⟩, .string ⟨#[]⟩, .int .i64 0, .bool false, .bool false, .int .i64 0] 23) ∧ Hid (Below w.heap.size w wx))
  case atStart => exact ⟨re, mo, n, v, [], -1, false, false, 0, rfl, rfl, rfl, HRb, HL0, HFo, HRow, HRes, HB⟩
  clear HFo HRow HRes HB HRb HL0 hrl
  case round =>
    obtain ⟨re, mo, n, v, p, a, se, ht, si, rfl, rfl, hm, HRb, hrl, HFo, HRow, HRes, HB⟩ := hrel
    cases mo with
    | false =>
      have HE := Lib.hid (show parseF (nats (txt l)) = some ⟨n, v, p, a, se, ht, si⟩ by rw [HS.out, ← HFo.out]; rfl)
      clear HFo HRb hrl
      have c0 := HRes.out.cell (i := 0) rfl; have g0 := HRes.out.free 0; have c1 := HRes.out.cell (i := 1) rfl; have g1 := HRes.out.free 1; have c2 := HRes.out.cell (i := 2) rfl; have g2 := HRes.out.free 2; have c3 := HRes.out.cell (i := 3) rfl; have g3 := HRes.out.free 3; have c4 := HRes.out.cell (i := 4) rfl; have g4 := HRes.out.free 4; have c5 := HRes.out.cell (i := 5) rfl; have g5 := HRes.out.free 5; have c6 := HRes.out.cell (i := 6) rfl; have g6 := HRes.out.free 6
      have r0 := HRow.out.cell (i := 0) rfl; have h0 := HRow.out.free 0; have r1 := HRow.out.cell (i := 1) rfl; have h1 := HRow.out.free 1; have r2c := HRow.out.cell (i := 2) rfl; have h2 := HRow.out.free 2; have r3 := HRow.out.cell (i := 3) rfl; have h3 := HRow.out.free 3; have r4 := HRow.out.cell (i := 4) rfl; have h4 := HRow.out.free 4; have r5 := HRow.out.cell (i := 5) rfl; have h5 := HRow.out.free 5; have r6 := HRow.out.cell (i := 6) rfl; have h6 := HRow.out.free 6
      go_wp2
      obtain ⟨q1, q2⟩ := put_seven HRes.out rfl (.string (txt n)) (.string (txt v)) (.string (txt p)) (.int .i64 a) (.bool se) (.bool ht) (.int .i64 si)
      refine bodyPost_ret (results_cell_tmp Tryd.results10 _ _ w.heap.size 23 _ (0, 0) _ rfl q1 Tryd.underlying23 rfl (by kernel_rfl)) rfl ?_
      exact ⟨by unfold ParseIs; rw [HE.out]; rfl, HB.out.trans (q2.below HB.out.size)⟩
    | true =>
      have hgk : gk = re.length + 1 := hm
      have HG := Lib.hid hgk
      clear hm hgk
      obtain ⟨q1, q2, q3⟩ := cutAt_len 59 re
      obtain ⟨q4, q5⟩ := cutAt_mem 59 re
      have hU1 := fun w => cut_semi (txt re) w (by rw [txt_len]; omega)
      rw [nats_txt re HRb.out] at hU1
      have HU1 := Lib.hid hU1
      clear hU1
      have hls := left_step re
      obtain ⟨at_, hat⟩ : ∃ at_, at_ = (cutAt 59 re).1 := ⟨_, rfl⟩
      obtain ⟨r2, hr2⟩ : ∃ r2, r2 = (cutAt 59 re).2.1 := ⟨_, rfl⟩
      obtain ⟨m2, hm2⟩ : ∃ m2, m2 = (cutAt 59 re).2.2 := ⟨_, rfl⟩
      rw [← hat] at q1 q4
      rw [← hr2] at q2 q5 q3
      rw [← hm2] at q3
      rw [← hat, ← hr2, ← hm2] at HU1 hls
      have hFo := HFo.out
      rw [hls] at hFo
      obtain ⟨n', v', p', a', se', ht', si', hst⟩ : ∃ n' v' p' a' se' ht' si', (BakeMath.step ⟨n, v, p, a, se, ht, si⟩ at_) = ⟨n', v', p', a', se', ht', si'⟩ := ⟨_, _, _, _, _, _, _, rfl⟩
      have HFo2 := Lib.hid (show (left m2 r2).foldl BakeMath.step ⟨n', v', p', a', se', ht', si'⟩ = F by rw [← hst]; exact hFo)
      have HRb2 := Lib.hid (show ∀ b ∈ r2, b < 256 from fun b hb => HRb.out b (q5 b hb))
      have HSt := Lib.hid (fun (w2 : World) (hb : Below w.heap.size w w2) => HW.out n v p a se ht si at_ w2 hb (fun b hb => HRb.out b (q4 b hb)) (by omega))
      rw [hst] at HSt
      replace HSt : Hid (∀ w2, Below w.heap.size w w2 → Calls Tryd.prog 23 #[.agg #[.string (txt n), .string (txt v), .string (txt p), .int .i64 a, .bool se, .bool ht, .int .i64 si], .string (txt at_)] w2 fun e w' => e = .returned (.agg #[.string (txt n'), .string (txt v'), .string (txt p'), .int .i64 a', .bool se', .bool ht', .int .i64 si']) ∧ Below w2.heap.size w2 w') := Lib.hid HSt.out
      have hr2l : r2.length ≤ 10000 := by omega
      have HM := Lib.hid (show (if m2 = true then r2.length + 1 else 0) < gk by
        rw [HG.out]
        cases m2 with
        | false => simp
        | true => have := q3 rfl; simp; omega)
      clear HFo hFo hls hat hr2 hm2 hst q1 q2 q3 q4 q5 HRb hrl HG
      go_wp2_with fail
      refine (HU1.out _).mono ?_
      rintro e w4 ⟨rfl, hb⟩
      replace HRow := Lib.hid (HRow.out.below hb)
      replace HRes := Lib.hid (HRes.out.below hb)
      replace HB := Lib.hid (HB.out.trans (hb.mono HB.out.size))
      clear hb HU1
      have r0 := HRow.out.cell (i := 0) rfl; have h0 := HRow.out.free 0; have r1 := HRow.out.cell (i := 1) rfl; have h1 := HRow.out.free 1; have r2c := HRow.out.cell (i := 2) rfl; have h2 := HRow.out.free 2; have r3 := HRow.out.cell (i := 3) rfl; have h3 := HRow.out.free 3; have r4 := HRow.out.cell (i := 4) rfl; have h4 := HRow.out.free 4; have r5 := HRow.out.cell (i := 5) rfl; have h5 := HRow.out.free 5; have r6 := HRow.out.cell (i := 6) rfl; have h6 := HRow.out.free 6
      go_wp2_with fail
      refine (HSt.out _ HB.out).mono ?_
      rintro e w5 ⟨rfl, hb⟩
      replace HRow := Lib.hid (HRow.out.below hb)
      replace HRes := Lib.hid (HRes.out.below hb)
      replace HB := Lib.hid (HB.out.trans (hb.mono HB.out.size))
      clear hb HSt r0 r1 r2c r3 r4 r5 r6 h0 h1 h2 h3 h4 h5 h6
      have r0 := HRow.out.cell (i := 0) rfl; have h0 := HRow.out.free 0; have r1 := HRow.out.cell (i := 1) rfl; have h1 := HRow.out.free 1; have r2c := HRow.out.cell (i := 2) rfl; have h2 := HRow.out.free 2; have r3 := HRow.out.cell (i := 3) rfl; have h3 := HRow.out.free 3; have r4 := HRow.out.cell (i := 4) rfl; have h4 := HRow.out.free 4; have r5 := HRow.out.cell (i := 5) rfl; have h5 := HRow.out.free 5; have r6 := HRow.out.cell (i := 6) rfl; have h6 := HRow.out.free 6
      go_wp2
      obtain ⟨q1, q2⟩ := put_seven HRow.out rfl (.string (txt n')) (.string (txt v')) (.string (txt p')) (.int .i64 a') (.bool se') (.bool ht') (.int .i64 si')
      go_roundg (if m2 = true then r2.length + 1 else 0)
      case measure => exact HM.out
      case rel => exact ⟨r2, m2, n', v', p', a', se', ht', si', rfl, rfl, rfl, HRb2, hr2l, HFo2, Lib.hid q1, Lib.hid (HRes.out.but q2 (Nat.ne_of_lt HLt.out)), Lib.hid (HB.out.trans ((q2.below (Nat.le_of_lt HRow.out.lt)).mono (Nat.le_of_lt HLt.out)))⟩
end Go.Proofs.YtlgofepmdjlpgaaDoor
