/-
  The document's own Parse of chapter 14. The condition: a text of at most 10,000 bytes.
-/
import Derived.Test.YtlgofepmdjlpgaaDoorPart17
import Derived.Test.YtlgofepmdjlpgaaDoorRefOctets
import Derived.Test.YtlgofepmdjlpgaaDoorResults
import Derived.Deep.CutRange
namespace Go.Proofs.YtlgofepmdjlpgaaDoor
open Go.RowKit TextNat BakeMath

/-- What the document's Parse answers. -/
def RefParseIs (s : ByteArray) (e : Ending) : Prop :=
  match parseF (nats s) with
  | some c => e = .returned (.tuple #[(CookieV.of c).val, .bool true])
  | none => e = .returned (.tuple #[zeroK.val, .bool false])
theorem put_seven {w : World} {b : Nat} {T : TypeId} {l : List Value} (h : Lies w b l T) (hl : l.length = 7) (u0 u1 u2 u3 u4 u5 u6 : Value) : Lies (((((((w.setCell ⟨b, 0, none⟩ u0).setCell ⟨b, 1, none⟩ u1).setCell ⟨b, 2, none⟩ u2).setCell ⟨b, 3, none⟩ u3).setCell ⟨b, 4, none⟩ u4).setCell ⟨b, 5, none⟩ u5).setCell ⟨b, 6, none⟩ u6) b [u0, u1, u2, u3, u4, u5, u6] T ∧ But b w (((((((w.setCell ⟨b, 0, none⟩ u0).setCell ⟨b, 1, none⟩ u1).setCell ⟨b, 2, none⟩ u2).setCell ⟨b, 3, none⟩ u3).setCell ⟨b, 4, none⟩ u4).setCell ⟨b, 5, none⟩ u5).setCell ⟨b, 6, none⟩ u6) := by
  match l, hl with
  | [_, _, _, _, _, _, _], _ =>
    exact ⟨(((((((h.set 0 u0).set 1 u1).set 2 u2).set 3 u3).set 4 u4).set 5 u5).set 6 u6), ((((((But.set b 0 w u0).trans (But.set b 1 _ u1)).trans (But.set b 2 _ u2)).trans (But.set b 3 _ u3)).trans (But.set b 4 _ u4)).trans (But.set b 5 _ u5)).trans (But.set b 6 _ u6)⟩
theorem below_set {B g : Nat} {a w : World} (h : Below B a w) (hg : B ≤ g) (j : Nat) (v : Value) : Below B a (w.setCell ⟨g, j, none⟩ v) :=
  ⟨h.os, h.tape, h.output, by have := h.size; simpa [World.setCell] using this, fun k hk => (Below.heap_setCell _ _ _ _ (by show k ≠ g; omega)).trans (h.block k hk)⟩
theorem up_one {g : Nat} {a w w' : World} {v6 : Value} (h : Below a.heap.size a w) (hg : a.heap.size ≤ g) (hb : Below (w.setCell ⟨g, 6, none⟩ v6).heap.size (w.setCell ⟨g, 6, none⟩ v6) w') : Below a.heap.size a w' := by
  have h1 := below_set h hg 6 v6
  exact h1.trans (hb.mono h1.size)
theorem lies_other {w : World} {b g j : Nat} {l : List Value} {T : TypeId} {v : Value} (h : Lies w b l T) (hn : b ≠ g) : Lies (w.setCell ⟨g, j, none⟩ v) b l T := h.but (But.set g j w v) hn
/-- The bytes of a cookie's texts are bytes. -/
theorem trim_mem {l : List Nat} {b : Nat} (h : b ∈ TextMath.trim l) : b ∈ l := by
  unfold TextMath.trim at h
  rw [List.mem_reverse] at h
  have h1 := (List.dropWhile_sublist (p := TextMath.blank) (l := (l.dropWhile TextMath.blank).reverse)).subset h
  rw [List.mem_reverse] at h1
  exact (List.dropWhile_sublist (p := TextMath.blank) (l := l)).subset h1
theorem trim_len' (l : List Nat) : (TextMath.trim l).length ≤ l.length := by
  unfold TextMath.trim
  rw [List.length_reverse]
  have h1 := (List.dropWhile_sublist (p := TextMath.blank) (l := (l.dropWhile TextMath.blank).reverse)).length_le
  rw [List.length_reverse] at h1
  have h2 := (List.dropWhile_sublist (p := TextMath.blank) (l := l)).length_le
  omega
/-- The texts that one attribute is: its name in small letters and its value. -/
theorem until_txt (l : List Nat) (c : Nat) (w : World) (hb : ∀ b ∈ l, b < 256) (hl : l.length ≤ 20000) :
    Calls Tryd.prog 25 #[.string (txt l), .int .u8 (c : Int)] w fun e w' => e = .returned (.tuple #[.string (txt (cutAt c l).1), .string (txt (cutAt c l).2.1), .bool (cutAt c l).2.2]) ∧ Below w.heap.size w w' := by
  have h := refUntil (txt l) c w (by rw [txt_len]; exact hl)
  rw [nats_txt _ hb] at h
  exact h
theorem trim_call (l : List Nat) (w : World) (hb : ∀ b ∈ l, b < 256) (hl : l.length ≤ 20000) :
    Calls Tryd.prog 26 #[.string (txt l)] w fun e w' => e = .returned (.string (txt (TextMath.trim l))) ∧ w' = w := by
  have h := refTrim (txt l) w (by rw [txt_len]; exact hl)
  rw [nats_txt _ hb] at h
  exact h
theorem small_call (l : List Nat) (w : World) (hb : ∀ b ∈ l, b < 256) (hl : l.length ≤ 20000) :
    Calls Tryd.prog 27 #[.string (txt l)] w fun e w' => e = .returned (.string (txt (small l))) ∧ Below w.heap.size w w' := by
  have h := refSmall (txt l) w (by rw [txt_len]; exact hl)
  rw [nats_txt _ hb] at h
  exact h
theorem number_call (l : List Nat) (w : World) (hb : ∀ b ∈ l, b < 256) (hl : l.length ≤ 20000) :
    Calls Tryd.prog 28 #[.string (txt l)] w fun e w' => e = .returned (.int .i64 (numberF l)) ∧ Below w.heap.size w w' := by
  have h := refNumber14 (txt l) w (by rw [txt_len]; exact hl)
  rw [nats_txt _ hb] at h
  exact h
theorem txt_ne {l m : List Nat} (hl : ∀ b ∈ l, b < 256) (hm : ∀ b ∈ m, b < 256) (h : ¬ l = m) : ¬ txt l = txt m := fun e => h (by rw [← nats_txt l hl, ← nats_txt m hm, e])
theorem small_lt {l : List Nat} (h : ∀ b ∈ l, b < 256) : ∀ b ∈ small l, b < 256 := fun b hb => by
  obtain ⟨c, hc, rfl⟩ := List.mem_map.1 hb
  exact lower_lt (h c hc)
theorem tell_path (v : List Nat) (c : CookieT) : tell kPath v c = { c with path := if v.head? = some 47 then v else [] } := by
  unfold tell
  rw [if_pos rfl]
theorem tell_age (v : List Nat) (c : CookieT) : tell kAge v c = { c with age := if 0 ≤ numberF v then numberF v else c.age } := by
  unfold tell
  rw [if_neg kAge_ne, if_pos rfl]
theorem tell_sec (v : List Nat) (c : CookieT) : tell kSec v c = { c with sec := true } := by
  unfold tell
  rw [if_neg keys.1.1, if_neg keys.1.2, if_pos rfl]
theorem tell_http (v : List Nat) (c : CookieT) : tell kHttp v c = { c with http := true } := by
  unfold tell
  rw [if_neg keys.2.1.1, if_neg keys.2.1.2.1, if_neg keys.2.1.2.2, if_pos rfl]
theorem tell_site (v : List Nat) (c : CookieT) : tell kSite v c = { c with site := siteOf v } := by
  unfold tell
  rw [if_neg keys.2.2.1, if_neg keys.2.2.2.1, if_neg keys.2.2.2.2.1, if_neg keys.2.2.2.2.2, if_pos rfl]
theorem tell_other {k v : List Nat} {c : CookieT} (h1 : ¬ k = kPath) (h2 : ¬ k = kAge) (h3 : ¬ k = kSec) (h4 : ¬ k = kHttp) (h5 : ¬ k = kSite) : tell k v c = c := by
  unfold tell
  rw [if_neg h1, if_neg h2, if_neg h3, if_neg h4, if_neg h5]
/-- A text that is another one than a literal. -/
theorem ne_lit {l m : List Nat} {x : List UInt8} (hl : ∀ b ∈ l, b < 256) (hm : ∀ b ∈ m, b < 256) (hx : (txt m).toList = x) (h : ¬ l = m) : ((txt l).toList == x) = false := by
  rw [beq_eq_false_iff_ne, ← hx]
  intro e
  exact txt_ne hl hm h (by
    rw [ByteArray.toList_eq, ByteArray.toList_eq] at e
    cases h1 : txt l; cases h2 : txt m
    rw [h1, h2] at e
    simpa using e)
theorem tell_all (k v : List Nat) (c : CookieT) : tell k v c = ⟨c.name, c.value, if decide (k = kPath) = true then (if v.head? = some 47 then v else []) else c.path, if decide (k = kAge) = true then (if 0 ≤ numberF v then numberF v else c.age) else c.age, c.sec || decide (k = kSec), c.http || decide (k = kHttp), if decide (k = kSite) = true then siteOf v else c.site⟩ := by
  by_cases h1 : k = kPath
  · subst h1
    rw [tell_path, decide_eq_true rfl, decide_eq_false (by decide), decide_eq_false (by decide), decide_eq_false (by decide), decide_eq_false (by decide)]
    simp
  by_cases h2 : k = kAge
  · subst h2
    rw [tell_age, decide_eq_true rfl, decide_eq_false (by decide), decide_eq_false (by decide), decide_eq_false (by decide), decide_eq_false (by decide)]
    simp
  by_cases h3 : k = kSec
  · subst h3
    rw [tell_sec, decide_eq_true rfl, decide_eq_false (by decide), decide_eq_false (by decide), decide_eq_false (by decide), decide_eq_false (by decide)]
    simp
  by_cases h4 : k = kHttp
  · subst h4
    rw [tell_http, decide_eq_true rfl, decide_eq_false (by decide), decide_eq_false (by decide), decide_eq_false (by decide), decide_eq_false (by decide)]
    simp
  by_cases h5 : k = kSite
  · subst h5
    rw [tell_site, decide_eq_true rfl, decide_eq_false (by decide), decide_eq_false (by decide), decide_eq_false (by decide), decide_eq_false (by decide)]
    simp
  rw [tell_other h1 h2 h3 h4 h5, decide_eq_false h1, decide_eq_false h2, decide_eq_false h3, decide_eq_false h4, decide_eq_false h5]
  simp
theorem lit_eq {l m : List Nat} {x : List UInt8} (hl : ∀ b ∈ l, b < 256) (hm : ∀ b ∈ m, b < 256) (hx : (txt m).toList = x) : ((txt l).toList == x) = decide (l = m) := by
  by_cases h : l = m
  · rw [decide_eq_true h, h, hx, beq_self_eq_true]
  · rw [decide_eq_false h]
    exact ne_lit hl hm hx h
theorem parse_eq (l : List Nat) : parseF l = if (cutAt 61 (cutAt 59 l).1).2.2 = false ∨ TextMath.trim (cutAt 61 (cutAt 59 l).1).1 = [] then none else some ((left (cutAt 59 l).2.2 (cutAt 59 l).2.1).foldl BakeMath.step ⟨TextMath.trim (cutAt 61 (cutAt 59 l).1).1, TextMath.trim (cutAt 61 (cutAt 59 l).1).2.1, [], -1, false, false, 0⟩) := by
  rw [parseF_left]
  unfold first
  simp only
  split <;> rfl
set_option maxRecDepth 100000 in
set_option maxHeartbeats 16000000 in
theorem refParse14 (s : ByteArray) (w : World) (hs : s.size ≤ 10000) :
    Calls Tryd.prog 12 #[.string s] w fun e w' => RefParseIs s e ∧ Below w.heap.size w w' := by
  obtain ⟨l, hl⟩ : ∃ l, l = nats s := ⟨_, rfl⟩
  have hlb : ∀ b ∈ l, b < 256 := by rw [hl]; exact nats_lt s
  have hll : l.length ≤ 10000 := by rw [hl, nats_len]; exact hs
  have hst : s = txt l := by rw [hl, txt_nats]
  subst hst
  have HF := Lib.hid ((congrArg parseF (nats_txt l hlb)).trans (parse_eq l))
  clear hl hs
  obtain ⟨q1, q2, q3⟩ := cutAt_len 59 l
  obtain ⟨q4, q5⟩ := cutAt_mem 59 l
  have HU1 := Lib.hid (fun w => until_txt l 59 w hlb (by omega))
  obtain ⟨fi, hfi⟩ : ∃ fi, fi = (cutAt 59 l).1 := ⟨_, rfl⟩
  obtain ⟨re, hre⟩ : ∃ re, re = (cutAt 59 l).2.1 := ⟨_, rfl⟩
  obtain ⟨mo, hmo⟩ : ∃ mo, mo = (cutAt 59 l).2.2 := ⟨_, rfl⟩
  rw [← hfi] at q1 q4
  rw [← hre] at q2 q5
  rw [← hfi, ← hre, ← hmo] at HU1 HF
  have hfb : ∀ b ∈ fi, b < 256 := fun b hb => hlb b (q4 b hb)
  have hrb : ∀ b ∈ re, b < 256 := fun b hb => hlb b (q5 b hb)
  have hrl : re.length ≤ 10000 := by omega
  obtain ⟨p1, p2, _⟩ := cutAt_len 61 fi
  obtain ⟨p4, p5⟩ := cutAt_mem 61 fi
  have HU2 := Lib.hid (fun w => until_txt fi 61 w hfb (by omega))
  obtain ⟨n0, hn0⟩ : ∃ n0, n0 = (cutAt 61 fi).1 := ⟨_, rfl⟩
  obtain ⟨v0, hv0⟩ : ∃ v0, v0 = (cutAt 61 fi).2.1 := ⟨_, rfl⟩
  obtain ⟨ok, hok⟩ : ∃ ok, ok = (cutAt 61 fi).2.2 := ⟨_, rfl⟩
  rw [← hn0] at p1 p4
  rw [← hv0] at p2 p5
  rw [← hn0, ← hv0, ← hok] at HU2 HF
  have HT1 := Lib.hid (fun w => trim_call n0 w (fun b hb => hfb b (p4 b hb)) (by omega))
  have HT2 := Lib.hid (fun w => trim_call v0 w (fun b hb => hfb b (p5 b hb)) (by omega))
  have hnb : ∀ b ∈ TextMath.trim n0, b < 256 := fun b hb => hfb b (p4 b (trim_mem hb))
  obtain ⟨n, hn⟩ : ∃ n, n = TextMath.trim n0 := ⟨_, rfl⟩
  obtain ⟨v, hv⟩ : ∃ v, v = TextMath.trim v0 := ⟨_, rfl⟩
  rw [← hn] at HT1 HF hnb
  rw [← hv] at HT2 HF
  have HRb := Lib.hid hrb
  clear hfi hre hmo q1 q2 q3 q4 q5 hlb hll hfb p1 p2 p4 p5 hn0 hv0 hok hn hv hrb
  go_enter Tryd.func12, Tryd.ntmps12
  go_wp2_with fail
  obtain ⟨W, hW⟩ : ∃ W, W = w.alloc (.cells #[.string ⟨#[]⟩, .string ⟨#[]⟩, .string ⟨#[]⟩, .int .i64 0, .bool false, .bool false, .int .i64 0] 30) := ⟨_, rfl⟩
  rw [← hW]
  have HB := Lib.hid (show Below w.heap.size w W by rw [hW]; exact (Below.refl _ _).alloc (Nat.le_refl _) _)
  have HRes := Lib.hid (show Lies W w.heap.size [.string ⟨#[]⟩, .string ⟨#[]⟩, .string ⟨#[]⟩, .int .i64 0, .bool false, .bool false, .int .i64 0] 30 by rw [hW]; exact Lies.new w _ _)
  clear hW
  refine (HU1.out W).mono ?_
  rintro e w1 ⟨rfl, hb⟩
  replace HRes := Lib.hid (HRes.out.below hb)
  replace HB := Lib.hid (HB.out.trans (hb.mono HB.out.size))
  clear hb
  go_wp2_with fail
  refine (HU2.out w1).mono ?_
  rintro e w2 ⟨rfl, hb⟩
  replace HRes := Lib.hid (HRes.out.below hb)
  replace HB := Lib.hid (HB.out.trans (hb.mono HB.out.size))
  clear hb
  go_wp2_with fail
  refine (HT1.out w2).mono ?_
  rintro e w3 ⟨rfl, hw⟩
  rw [hw]
  clear hw
  go_wp2_with fail
  refine (HT2.out w2).mono ?_
  rintro e w3 ⟨rfl, hw⟩
  rw [hw]
  clear hw HU1 HU2 HT1 HT2
  have hb : Below w2.heap.size w2 (w2.alloc (.cells #[.string (txt n), .string (txt v), .string ⟨#[]⟩, .int .i64 (-1), .bool false, .bool false, .int .i64 0] 30)) := (Below.refl _ _).alloc (Nat.le_refl _) _
  have HRow := Lib.hid (show Lies (w2.alloc (.cells #[.string (txt n), .string (txt v), .string ⟨#[]⟩, .int .i64 (-1), .bool false, .bool false, .int .i64 0] 30)) w2.heap.size [.string (txt n), .string (txt v), .string ⟨#[]⟩, .int .i64 (-1), .bool false, .bool false, .int .i64 0] 30 from Lies.new w2 _ _)
  have HLt := Lib.hid (show w.heap.size < w2.heap.size from HRes.out.lt)
  replace HRes := Lib.hid (HRes.out.below hb)
  replace HB := Lib.hid (HB.out.trans (hb.mono HB.out.size))
  clear hb
  cases ok with
  | false =>
    have HN := Lib.hid (show parseF (nats (txt l)) = none by rw [HF.out, if_pos (.inl rfl)])
    clear HF
    have c0 := HRes.out.cell (i := 0) rfl; have g0 := HRes.out.free 0; have c1 := HRes.out.cell (i := 1) rfl; have g1 := HRes.out.free 1; have c2 := HRes.out.cell (i := 2) rfl; have g2 := HRes.out.free 2; have c3 := HRes.out.cell (i := 3) rfl; have g3 := HRes.out.free 3; have c4 := HRes.out.cell (i := 4) rfl; have g4 := HRes.out.free 4; have c5 := HRes.out.cell (i := 5) rfl; have g5 := HRes.out.free 5; have c6 := HRes.out.cell (i := 6) rfl; have g6 := HRes.out.free 6
    go_wp2
    obtain ⟨q1, q2⟩ := put_seven HRes.out rfl (.string ⟨#[]⟩) (.string ⟨#[]⟩) (.string ⟨#[]⟩) (.int .i64 0) (.bool false) (.bool false) (.int .i64 0)
    refine bodyPost_ret (results_cell_tmp Tryd.results12 _ _ w.heap.size 30 _ (0, 0) _ rfl q1 Tryd.underlying30 rfl (by kernel_rfl)) rfl ?_
    exact ⟨by unfold RefParseIs; rw [HN.out]; rfl, HB.out.trans (q2.below HB.out.size)⟩
  | true =>
  by_cases hne : n = []
  · have HN := Lib.hid (show parseF (nats (txt l)) = none by rw [HF.out, if_pos (.inr hne)])
    have r0 := HRow.out.cell (i := 0) rfl
    have tn : (((txt n).size : Int) == 0) = true := by rw [hne]; rfl
    clear HF hne
    have c0 := HRes.out.cell (i := 0) rfl; have g0 := HRes.out.free 0; have c1 := HRes.out.cell (i := 1) rfl; have g1 := HRes.out.free 1; have c2 := HRes.out.cell (i := 2) rfl; have g2 := HRes.out.free 2; have c3 := HRes.out.cell (i := 3) rfl; have g3 := HRes.out.free 3; have c4 := HRes.out.cell (i := 4) rfl; have g4 := HRes.out.free 4; have c5 := HRes.out.cell (i := 5) rfl; have g5 := HRes.out.free 5; have c6 := HRes.out.cell (i := 6) rfl; have g6 := HRes.out.free 6
    go_wp2
    obtain ⟨q1, q2⟩ := put_seven HRes.out rfl (.string ⟨#[]⟩) (.string ⟨#[]⟩) (.string ⟨#[]⟩) (.int .i64 0) (.bool false) (.bool false) (.int .i64 0)
    refine bodyPost_ret (results_cell_tmp Tryd.results12 _ _ w.heap.size 30 _ (0, 0) _ rfl q1 Tryd.underlying30 rfl (by kernel_rfl)) rfl ?_
    exact ⟨by unfold RefParseIs; rw [HN.out]; rfl, HB.out.trans (q2.below HB.out.size)⟩
  have HS := Lib.hid (show parseF (nats (txt l)) = some ((left mo re).foldl BakeMath.step ⟨n, v, [], -1, false, false, 0⟩) by rw [HF.out, if_neg]; simp [hne])
  obtain ⟨F, hF⟩ : ∃ F, F = (left mo re).foldl BakeMath.step ⟨n, v, [], -1, false, false, 0⟩ := ⟨_, rfl⟩
  rw [← hF] at HS
  have HFo := Lib.hid hF.symm
  have r0 := HRow.out.cell (i := 0) rfl
  have hnl : 0 < (txt n).size := by
    rw [txt_len]
    cases n with
    | nil => exact absurd rfl hne
    | cons a r => simp
  have tn : (((txt n).size : Int) == 0) = false := by rw [beq_eq_false_iff_ne]; omega
  clear HF hF hne hnl
  go_wp2
  obtain ⟨W3, hW3⟩ : ∃ W3, W3 = w2.alloc (.cells #[.string (txt n), .string (txt v), .string ⟨#[]⟩, .int .i64 (-1), .bool false, .bool false, .int .i64 0] 30) := ⟨_, rfl⟩
  rw [← hW3] at HRow HRes HB r0 ⊢
  obtain ⟨gc, hgc⟩ : ∃ gc, gc = w2.heap.size := ⟨_, rfl⟩
  rw [← hgc] at HRow HLt r0 ⊢
  clear hW3 hgc r0 tn
  have HL0 : re.length ≤ 10000 := hrl
  go_loopg [5, 6] (if mo = true then re.length + 1 else 0) (fun gh s5 s6 wx => ∃ (re : List Nat) (mo : Bool) (p : List Nat) (a : Int) (se ht : Bool) (si : Int), s5 = .string (txt re) ∧ s6 = .bool mo ∧ gh = (if mo = true then re.length + 1 else 0) ∧ Hid (∀ b ∈ re, b < 256) ∧ re.length ≤ 10000 ∧ Hid ((left mo re).foldl BakeMath.step ⟨n, v, p, a, se, ht, si⟩ = F) ∧ Hid (Lies wx gc [.string (txt n), .string (txt v), .string (txt p), .int .i64 a, .bool se, .bool ht, .int .i64 si] 30) ∧ Hid (Lies wx w.heap.size [.string ⟨#[]⟩, .string ⟨#[]⟩, .string ⟨#[]⟩, .int .i64 0, .bool false, .bool false, .int .i64 0] 30) ∧ Hid (Below w.heap.size w wx))
  case atStart => exact ⟨re, mo, [], -1, false, false, 0, rfl, rfl, rfl, HRb, HL0, HFo, HRow, HRes, HB⟩
  clear HFo HRow HRes HB HRb HL0 hrl
  case round =>
    obtain ⟨re, mo, p, a, se, ht, si, rfl, rfl, hm, HRb, hrl, HFo, HRow, HRes, HB⟩ := hrel
    cases mo with
    | false =>
      have HE := Lib.hid (show parseF (nats (txt l)) = some ⟨n, v, p, a, se, ht, si⟩ by rw [HS.out, ← HFo.out]; rfl)
      clear HFo HRb hrl
      have c0 := HRes.out.cell (i := 0) rfl; have g0 := HRes.out.free 0; have c1 := HRes.out.cell (i := 1) rfl; have g1 := HRes.out.free 1; have c2 := HRes.out.cell (i := 2) rfl; have g2 := HRes.out.free 2; have c3 := HRes.out.cell (i := 3) rfl; have g3 := HRes.out.free 3; have c4 := HRes.out.cell (i := 4) rfl; have g4 := HRes.out.free 4; have c5 := HRes.out.cell (i := 5) rfl; have g5 := HRes.out.free 5; have c6 := HRes.out.cell (i := 6) rfl; have g6 := HRes.out.free 6
      have r0 := HRow.out.cell (i := 0) rfl; have r1 := HRow.out.cell (i := 1) rfl; have r2 := HRow.out.cell (i := 2) rfl; have r3 := HRow.out.cell (i := 3) rfl; have r4 := HRow.out.cell (i := 4) rfl; have r5 := HRow.out.cell (i := 5) rfl; have r6 := HRow.out.cell (i := 6) rfl
      go_wp2
      obtain ⟨q1, q2⟩ := put_seven HRes.out rfl (.string (txt n)) (.string (txt v)) (.string (txt p)) (.int .i64 a) (.bool se) (.bool ht) (.int .i64 si)
      refine bodyPost_ret (results_cell_tmp Tryd.results12 _ _ w.heap.size 30 _ (0, 0) _ rfl q1 Tryd.underlying30 rfl (by kernel_rfl)) rfl ?_
      exact ⟨by unfold RefParseIs; rw [HE.out]; rfl, HB.out.trans (q2.below HB.out.size)⟩
    | true =>
      have hgk : gk = re.length + 1 := hm
      have HG := Lib.hid hgk
      clear hm hgk
      obtain ⟨q1, q2, q3⟩ := cutAt_len 59 re
      obtain ⟨q4, q5⟩ := cutAt_mem 59 re
      have HU1 := Lib.hid (fun w => until_txt re 59 w HRb.out (by omega))
      have hls := left_step re
      obtain ⟨at_, hat⟩ : ∃ at_, at_ = (cutAt 59 re).1 := ⟨_, rfl⟩
      obtain ⟨r2, hr2⟩ : ∃ r2, r2 = (cutAt 59 re).2.1 := ⟨_, rfl⟩
      obtain ⟨m2, hm2⟩ : ∃ m2, m2 = (cutAt 59 re).2.2 := ⟨_, rfl⟩
      rw [← hat] at q1 q4
      rw [← hr2] at q2 q5 q3
      rw [← hm2] at q3
      rw [← hat, ← hr2, ← hm2] at HU1 hls
      have hFo := HFo.out
      rw [hls] at hFo
      have HFo2 := Lib.hid (show (left m2 r2).foldl BakeMath.step (tell (BakeMath.keyOf at_) (BakeMath.valOf at_) ⟨n, v, p, a, se, ht, si⟩) = F from hFo)
      have hab : ∀ b ∈ at_, b < 256 := fun b hb => HRb.out b (q4 b hb)
      have HRb2 := Lib.hid (show ∀ b ∈ r2, b < 256 from fun b hb => HRb.out b (q5 b hb))
      have hr2l : r2.length ≤ 10000 := by omega
      have HM := Lib.hid (show (if m2 = true then r2.length + 1 else 0) < gk by
        rw [HG.out]
        cases m2 with
        | false => simp
        | true => have := q3 rfl; simp; omega)
      obtain ⟨p1, p2, _⟩ := cutAt_len 61 at_
      obtain ⟨p4, p5⟩ := cutAt_mem 61 at_
      have HU2 := Lib.hid (fun w => until_txt at_ 61 w hab (by omega))
      obtain ⟨k0, hk0⟩ : ∃ k0, k0 = (cutAt 61 at_).1 := ⟨_, rfl⟩
      obtain ⟨v0, hv0⟩ : ∃ v0, v0 = (cutAt 61 at_).2.1 := ⟨_, rfl⟩
      obtain ⟨o2, ho2⟩ : ∃ o2, o2 = (cutAt 61 at_).2.2 := ⟨_, rfl⟩
      rw [← hk0] at p1 p4
      rw [← hv0] at p2 p5
      rw [← hk0, ← hv0, ← ho2] at HU2
      have HT1 := Lib.hid (fun w => trim_call k0 w (fun b hb => hab b (p4 b hb)) (by omega))
      have HT2 := Lib.hid (fun w => trim_call v0 w (fun b hb => hab b (p5 b hb)) (by omega))
      have htk := trim_len' k0
      have htv := trim_len' v0
      have HT3 := Lib.hid (fun w => small_call (TextMath.trim k0) w (fun b hb => hab b (p4 b (trim_mem hb))) (by omega))
      obtain ⟨K, hK⟩ : ∃ K, K = BakeMath.keyOf at_ := ⟨_, rfl⟩
      obtain ⟨V, hV⟩ : ∃ V, V = BakeMath.valOf at_ := ⟨_, rfl⟩
      have hK2 : small (TextMath.trim k0) = K := by rw [hK, hk0]; rfl
      have hV2 : TextMath.trim v0 = V := by rw [hV, hv0]; rfl
      have hKb : ∀ b ∈ K, b < 256 := by rw [← hK2]; exact small_lt (fun b hb => hab b (p4 b (trim_mem hb)))
      have hVb : ∀ b ∈ V, b < 256 := by rw [← hV2]; exact fun b hb => hab b (p5 b (trim_mem hb))
      have hVl : V.length ≤ 10000 := by rw [← hV2]; omega
      rw [← hK, ← hV] at HFo2
      rw [hV2] at HT2
      rw [hK2] at HT3
      have HVb := Lib.hid hVb
      have HKb := Lib.hid hKb
      clear HFo hFo hls hat hr2 hm2 q1 q2 q3 q4 q5 hab p1 p2 p4 p5 hk0 hv0 ho2 htk htv hK hV hK2 hV2 hKb hVb HRb hrl HG
      go_wp2_with fail
      refine (HU1.out _).mono ?_
      rintro e w4 ⟨rfl, hb⟩
      replace HRow := Lib.hid (HRow.out.below hb)
      replace HRes := Lib.hid (HRes.out.below hb)
      replace HB := Lib.hid (HB.out.trans (hb.mono HB.out.size))
      clear hb
      go_wp2_with fail
      refine (HU2.out _).mono ?_
      rintro e w5 ⟨rfl, hb⟩
      replace HRow := Lib.hid (HRow.out.below hb)
      replace HRes := Lib.hid (HRes.out.below hb)
      replace HB := Lib.hid (HB.out.trans (hb.mono HB.out.size))
      clear hb
      go_wp2_with fail
      refine (HT1.out _).mono ?_
      rintro e w6 ⟨rfl, hw⟩
      rw [hw]
      clear hw
      go_wp2_with fail
      refine (HT3.out _).mono ?_
      rintro e w7 ⟨rfl, hb⟩
      replace HRow := Lib.hid (HRow.out.below hb)
      replace HRes := Lib.hid (HRes.out.below hb)
      replace HB := Lib.hid (HB.out.trans (hb.mono HB.out.size))
      clear hb
      go_wp2_with fail
      refine (HT2.out _).mono ?_
      rintro e w8 ⟨rfl, hw⟩
      rw [hw]
      clear hw HU1 HU2 HT1 HT2 HT3
      have HNe := Lib.hid (show w.heap.size ≠ gc from Nat.ne_of_lt HLt.out)
      have hgw : w.heap.size ≤ gc := Nat.le_of_lt HLt.out
      have HTl := Lib.hid (tell_all K V ⟨n, v, p, a, se, ht, si⟩)
      rw [HTl.out] at HFo2
      clear HTl
      obtain ⟨KT, hKT⟩ : ∃ KT, KT = txt K := ⟨_, rfl⟩
      have tk1 : (KT.toList == [112, 97, 116, 104]) = decide (K = kPath) := by rw [hKT]; exact lit_eq HKb.out (show ∀ b ∈ kPath, b < 256 by decide) (by rw [ByteArray.toList_eq]; decide)
      have tk2 : (KT.toList == [109, 97, 120, 45, 97, 103, 101]) = decide (K = kAge) := by rw [hKT]; exact lit_eq HKb.out (show ∀ b ∈ kAge, b < 256 by decide) (by rw [ByteArray.toList_eq]; decide)
      have tk3 : (KT.toList == [115, 101, 99, 117, 114, 101]) = decide (K = kSec) := by rw [hKT]; exact lit_eq HKb.out (show ∀ b ∈ kSec, b < 256 by decide) (by rw [ByteArray.toList_eq]; decide)
      have tk4 : (KT.toList == [104, 116, 116, 112, 111, 110, 108, 121]) = decide (K = kHttp) := by rw [hKT]; exact lit_eq HKb.out (show ∀ b ∈ kHttp, b < 256 by decide) (by rw [ByteArray.toList_eq]; decide)
      have tk5 : (KT.toList == [115, 97, 109, 101, 115, 105, 116, 101]) = decide (K = kSite) := by rw [hKT]; exact lit_eq HKb.out (show ∀ b ∈ kSite, b < 256 by decide) (by rw [ByteArray.toList_eq]; decide)
      obtain ⟨k1, hk1⟩ : ∃ k1, k1 = decide (K = kPath) := ⟨_, rfl⟩
      rw [← hk1] at tk1 HFo2
      obtain ⟨k2, hk2⟩ : ∃ k2, k2 = decide (K = kAge) := ⟨_, rfl⟩
      rw [← hk2] at tk2 HFo2
      obtain ⟨k3, hk3⟩ : ∃ k3, k3 = decide (K = kSec) := ⟨_, rfl⟩
      rw [← hk3] at tk3 HFo2
      obtain ⟨k4, hk4⟩ : ∃ k4, k4 = decide (K = kHttp) := ⟨_, rfl⟩
      rw [← hk4] at tk4 HFo2
      obtain ⟨k5, hk5⟩ : ∃ k5, k5 = decide (K = kSite) := ⟨_, rfl⟩
      rw [← hk5] at tk5 HFo2
      rw [← hKT]
      obtain ⟨VT, hVT⟩ : ∃ VT, VT = txt V := ⟨_, rfl⟩
      have HVT := Lib.hid hVT
      rw [← hVT]
      clear hKT hk1 hk2 hk3 hk4 hk5 HKb hVT
      go_upto_if 60 with fail
      go_cut [] from 60 to 71 (fun wx => ∃ p2 : List Nat, Hid (p2 = if k1 = true then (if V.head? = some 47 then V else []) else p) ∧ Hid (Lies wx gc [.string (txt n), .string (txt v), .string (txt p2), .int .i64 a, .bool se, .bool ht, .int .i64 si] 30) ∧ Hid (Lies wx w.heap.size [.string ⟨#[]⟩, .string ⟨#[]⟩, .string ⟨#[]⟩, .int .i64 0, .bool false, .bool false, .int .i64 0] 30) ∧ Hid (Below w.heap.size w wx))
      case first =>
        have cc2 := HRow.out.cell (i := 2) rfl; have ff2 := HRow.out.free 2
        cases k1 with
        | false =>
          go_wp2
          go_meet
          case rel => exact ⟨p, Lib.hid rfl, HRow, HRes, HB⟩
        | true =>
          have hvl : VT.size = V.length := by rw [HVT.out, txt_len]
          cases V with
          | nil =>
            have tv : decide ((0 : Int) < (VT.size : Int)) = false := decide_eq_false (by rw [hvl]; simp)
            have tv' : decide (0 < VT.size) = false := decide_eq_false (by rw [hvl]; simp)
            clear hvl
            go_wp2
            go_meet
            case rel => exact ⟨[], Lib.hid rfl, Lib.hid (HRow.out.set 2 _), Lib.hid (lies_other HRes.out HNe.out), Lib.hid (below_set HB.out hgw _ _)⟩
          | cons x r =>
            have hp0 : 0 < VT.size := by rw [hvl]; simp
            have tv : decide ((0 : Int) < (VT.size : Int)) = true := decide_eq_true (by omega)
            have tv' : decide (0 < VT.size) = true := decide_eq_true hp0
            have hx0 : ((VT[0]'hp0).toNat : Int) = (x : Int) := by
              have h1 := nats_at VT 0 hp0
              rw [show nats VT = x :: r by rw [HVT.out, nats_txt _ HVb.out]] at h1
              have h2 := Option.some.inj h1
              rw [h2]
            clear hvl
            by_cases h47 : x = 47
            · have tx : ((x : Int) == 47) = true := by rw [beq_iff_eq]; omega
              have HE := Lib.hid (show (if (x :: r).head? = some 47 then x :: r else []) = x :: r from if_pos (by rw [h47]; rfl))
              clear h47
              go_wp2
              go_meet
              case rel => exact ⟨x :: r, Lib.hid HE.out.symm, Lib.hid (by rw [← HVT.out]; exact (HRow.out.set 2 _).set 2 _), Lib.hid (lies_other (lies_other HRes.out HNe.out) HNe.out), Lib.hid (below_set (below_set HB.out hgw _ _) hgw _ _)⟩
            · have tx : ((x : Int) == 47) = false := by rw [beq_eq_false_iff_ne]; omega
              have HE := Lib.hid (show (if (x :: r).head? = some 47 then x :: r else []) = [] from if_neg fun h => h47 (Option.some.inj h))
              clear h47
              go_wp2
              go_meet
              case rel => exact ⟨[], Lib.hid HE.out.symm, Lib.hid (HRow.out.set 2 _), Lib.hid (lies_other HRes.out HNe.out), Lib.hid (below_set HB.out hgw _ _)⟩
      case rest =>
      obtain ⟨p2, HP2, HRow2, HRes2, HB2⟩ := hcut
      clear HRow HRes HB
      obtain ⟨HRow, HRes, HB⟩ := And.intro HRow2 (And.intro HRes2 HB2)
      clear HRow2 HRes2 HB2
      rw [← HP2.out] at HFo2
      clear HP2 tk1
      have HNu := Lib.hid (fun w => show Calls Tryd.prog 28 #[.string VT] w (fun e w' => e = .returned (.int .i64 (numberF V)) ∧ Below w.heap.size w w') by rw [HVT.out]; exact number_call V w HVb.out (by omega))
      obtain ⟨N, hN⟩ : ∃ N, N = numberF V := ⟨_, rfl⟩
      rw [← hN] at HNu HFo2
      clear hN
      go_upto_region 15 with fail
      go_cut [78] from 72 to 78 (fun s78 wx => s78 = .bool (k2 && decide (0 ≤ N)) ∧ Hid (Lies wx gc [.string (txt n), .string (txt v), .string (txt p2), .int .i64 a, .bool se, .bool ht, .int .i64 si] 30) ∧ Hid (Lies wx w.heap.size [.string ⟨#[]⟩, .string ⟨#[]⟩, .string ⟨#[]⟩, .int .i64 0, .bool false, .bool false, .int .i64 0] 30) ∧ Hid (Below w.heap.size w wx))
      case first =>
        cases k2 with
        | false =>
          go_wp2
          go_meet
          case rel => exact ⟨rfl, HRow, HRes, HB⟩
        | true =>
          go_wp2_with fail
          refine (HNu.out _).mono ?_
          rintro e w9 ⟨rfl, hb⟩
          replace HRow := Lib.hid (HRow.out.below hb)
          replace HRes := Lib.hid (HRes.out.below hb)
          replace HB := Lib.hid (HB.out.trans (hb.mono HB.out.size))
          clear hb
          go_wp2
          go_meet
          case rel => exact ⟨rfl, HRow, HRes, HB⟩
      case rest =>
      obtain ⟨rfl, HRow2, HRes2, HB2⟩ := hcut
      clear HRow HRes HB
      obtain ⟨HRow, HRes, HB⟩ := And.intro HRow2 (And.intro HRes2 HB2)
      clear HRow2 HRes2 HB2
      clear tk2
      obtain ⟨b2, hb2⟩ : ∃ b2, b2 = (k2 && decide (0 ≤ N)) := ⟨_, rfl⟩
      rw [← hb2]
      have Hb2 := Lib.hid hb2
      clear hb2
      go_upto_if 78 with fail
      go_cut [] from 78 to 81 (fun wx => ∃ a2 : Int, Hid (a2 = if k2 = true then (if 0 ≤ N then N else a) else a) ∧ Hid (Lies wx gc [.string (txt n), .string (txt v), .string (txt p2), .int .i64 a2, .bool se, .bool ht, .int .i64 si] 30) ∧ Hid (Lies wx w.heap.size [.string ⟨#[]⟩, .string ⟨#[]⟩, .string ⟨#[]⟩, .int .i64 0, .bool false, .bool false, .int .i64 0] 30) ∧ Hid (Below w.heap.size w wx))
      case first =>
        cases b2 with
        | false =>
          have HE := Lib.hid (show a = if k2 = true then (if 0 ≤ N then N else a) else a by
            have h := Hb2.out
            cases k2 with
            | false => rfl
            | true =>
              have h0 : ¬ 0 ≤ N := fun h1 => by rw [decide_eq_true h1] at h; cases h
              rw [if_pos rfl, if_neg h0])
          go_wp2
          go_meet
          case rel => exact ⟨a, HE, HRow, HRes, HB⟩
        | true =>
          have HE := Lib.hid (show N = if k2 = true then (if 0 ≤ N then N else a) else a by
            have h := Hb2.out
            cases k2 with
            | false => cases h
            | true =>
              have h0 : 0 ≤ N := by simpa using h.symm
              rw [if_pos rfl, if_pos h0])
          go_wp2_with fail
          refine (HNu.out _).mono ?_
          rintro e w9 ⟨rfl, hb⟩
          replace HRow := Lib.hid (HRow.out.below hb)
          replace HRes := Lib.hid (HRes.out.below hb)
          replace HB := Lib.hid (HB.out.trans (hb.mono HB.out.size))
          clear hb
          have cc3 := HRow.out.cell (i := 3) rfl; have ff3 := HRow.out.free 3
          go_wp2
          go_meet
          case rel => exact ⟨N, HE, Lib.hid (HRow.out.set 3 _), Lib.hid (lies_other HRes.out HNe.out), Lib.hid (below_set HB.out hgw _ _)⟩
      case rest =>
      obtain ⟨a2, HA2, HRow2, HRes2, HB2⟩ := hcut
      clear HRow HRes HB
      obtain ⟨HRow, HRes, HB⟩ := And.intro HRow2 (And.intro HRes2 HB2)
      clear HRow2 HRes2 HB2
      rw [← HA2.out] at HFo2
      clear HA2 Hb2 HNu
      go_upto_region 17 with fail
      go_cut [] from 82 to 88 (fun wx => Hid (Lies wx gc [.string (txt n), .string (txt v), .string (txt p2), .int .i64 a2, .bool (se || k3), .bool ht, .int .i64 si] 30) ∧ Hid (Lies wx w.heap.size [.string ⟨#[]⟩, .string ⟨#[]⟩, .string ⟨#[]⟩, .int .i64 0, .bool false, .bool false, .int .i64 0] 30) ∧ Hid (Below w.heap.size w wx))
      case first =>
        have cc4 := HRow.out.cell (i := 4) rfl; have ff4 := HRow.out.free 4
        cases se with
        | false =>
          go_wp2
          go_meet
          case rel => exact ⟨Lib.hid (HRow.out.set 4 _), Lib.hid (lies_other HRes.out HNe.out), Lib.hid (below_set HB.out hgw _ _)⟩
        | true =>
          go_wp2
          go_meet
          case rel => exact ⟨Lib.hid (HRow.out.set 4 _), Lib.hid (lies_other HRes.out HNe.out), Lib.hid (below_set HB.out hgw _ _)⟩
      case rest =>
      obtain ⟨HRow2, HRes2, HB2⟩ := hcut
      clear HRow HRes HB
      obtain ⟨HRow, HRes, HB⟩ := And.intro HRow2 (And.intro HRes2 HB2)
      clear HRow2 HRes2 HB2
      go_upto_region 18 with fail
      go_cut [] from 89 to 95 (fun wx => Hid (Lies wx gc [.string (txt n), .string (txt v), .string (txt p2), .int .i64 a2, .bool (se || k3), .bool (ht || k4), .int .i64 si] 30) ∧ Hid (Lies wx w.heap.size [.string ⟨#[]⟩, .string ⟨#[]⟩, .string ⟨#[]⟩, .int .i64 0, .bool false, .bool false, .int .i64 0] 30) ∧ Hid (Below w.heap.size w wx))
      case first =>
        have cc5 := HRow.out.cell (i := 5) rfl; have ff5 := HRow.out.free 5
        cases ht with
        | false =>
          go_wp2
          go_meet
          case rel => exact ⟨Lib.hid (HRow.out.set 5 _), Lib.hid (lies_other HRes.out HNe.out), Lib.hid (below_set HB.out hgw _ _)⟩
        | true =>
          go_wp2
          go_meet
          case rel => exact ⟨Lib.hid (HRow.out.set 5 _), Lib.hid (lies_other HRes.out HNe.out), Lib.hid (below_set HB.out hgw _ _)⟩
      case rest =>
      obtain ⟨HRow2, HRes2, HB2⟩ := hcut
      clear HRow HRes HB
      obtain ⟨HRow, HRes, HB⟩ := And.intro HRow2 (And.intro HRes2 HB2)
      clear HRow2 HRes2 HB2
      go_upto_if 97 with fail
      have cc6 := HRow.out.cell (i := 6) rfl; have ff6 := HRow.out.free 6
      cases k5 with
      | false =>
        have HFo3 := Lib.hid (show (left m2 r2).foldl BakeMath.step ⟨n, v, p2, a2, se || k3, ht || k4, si⟩ = F from HFo2.out)
        clear HFo2
        go_wp2
        go_roundg (if m2 = true then r2.length + 1 else 0)
        case measure => exact HM.out
        case rel => exact ⟨r2, m2, p2, a2, se || k3, ht || k4, si, rfl, rfl, rfl, HRb2, hr2l, HFo3, HRow, HRes, HB⟩
      | true =>
        replace HFo2 := Lib.hid (show (left m2 r2).foldl BakeMath.step ⟨n, v, p2, a2, se || k3, ht || k4, siteOf V⟩ = F from HFo2.out)
        have HSm := Lib.hid (fun w => show Calls Tryd.prog 27 #[.string VT] w (fun e w' => e = .returned (.string (txt (small V))) ∧ Below w.heap.size w w') by rw [HVT.out]; exact small_call V w HVb.out (by omega))
        have HSb := Lib.hid (small_lt HVb.out)
        have HSi := Lib.hid (show siteOf V = if small V = vStrict then 1 else if small V = vLax then 2 else if small V = vNone then 3 else 0 from rfl)
        obtain ⟨SV, hSV⟩ : ∃ SV, SV = small V := ⟨_, rfl⟩
        rw [← hSV] at HSm HSi HSb
        clear hSV
        go_wp2_with fail
        refine (HSm.out _).mono ?_
        rintro e w9 ⟨rfl, hb⟩
        have HRow9 := Lib.hid ((HRow.out.set 6 _).below hb)
        have HRes9 := Lib.hid ((lies_other HRes.out HNe.out).below hb)
        have HB9 := Lib.hid (up_one HB.out hgw hb)
        clear hb cc6 ff6
        have cc6 := HRow9.out.cell (i := 6) rfl; have ff6 := HRow9.out.free 6
        have ts1 : ((txt SV).toList == [115, 116, 114, 105, 99, 116]) = decide (SV = vStrict) := lit_eq HSb.out (show ∀ b ∈ vStrict, b < 256 by decide) (by rw [ByteArray.toList_eq]; decide)
        have ts2 : ((txt SV).toList == [108, 97, 120]) = decide (SV = vLax) := lit_eq HSb.out (show ∀ b ∈ vLax, b < 256 by decide) (by rw [ByteArray.toList_eq]; decide)
        have ts3 : ((txt SV).toList == [110, 111, 110, 101]) = decide (SV = vNone) := lit_eq HSb.out (show ∀ b ∈ vNone, b < 256 by decide) (by rw [ByteArray.toList_eq]; decide)
        obtain ⟨ST, hST⟩ : ∃ ST, ST = txt SV := ⟨_, rfl⟩
        rw [← hST] at ts1 ts2 ts3 ⊢
        clear hST HSb HSm
        by_cases hS1 : SV = vStrict
        · rw [decide_eq_true hS1] at ts1
          rw [decide_eq_false (fun h => absurd (hS1.symm.trans h) (by decide))] at ts2
          rw [decide_eq_false (fun h => absurd (hS1.symm.trans h) (by decide))] at ts3
          have HFo3 := Lib.hid (show (left m2 r2).foldl BakeMath.step ⟨n, v, p2, a2, se || k3, ht || k4, 1⟩ = F by
            have h := HFo2.out
            rw [HSi.out, if_pos hS1] at h
            exact h)
          clear HSi HFo2 hS1
          go_wp2
          go_roundg (if m2 = true then r2.length + 1 else 0)
          case measure => exact HM.out
          case rel => exact ⟨r2, m2, p2, a2, se || k3, ht || k4, 1, rfl, rfl, rfl, HRb2, hr2l, HFo3, Lib.hid (HRow9.out.set 6 _), Lib.hid (lies_other HRes9.out HNe.out), Lib.hid (below_set HB9.out hgw _ _)⟩
        by_cases hS2 : SV = vLax
        · rw [decide_eq_false hS1] at ts1
          rw [decide_eq_true hS2] at ts2
          rw [decide_eq_false (fun h => absurd (hS2.symm.trans h) (by decide))] at ts3
          have HFo3 := Lib.hid (show (left m2 r2).foldl BakeMath.step ⟨n, v, p2, a2, se || k3, ht || k4, 2⟩ = F by
            have h := HFo2.out
            rw [HSi.out, if_neg hS1, if_pos hS2] at h
            exact h)
          clear HSi HFo2 hS1 hS2
          go_wp2
          go_roundg (if m2 = true then r2.length + 1 else 0)
          case measure => exact HM.out
          case rel => exact ⟨r2, m2, p2, a2, se || k3, ht || k4, 2, rfl, rfl, rfl, HRb2, hr2l, HFo3, Lib.hid (HRow9.out.set 6 _), Lib.hid (lies_other HRes9.out HNe.out), Lib.hid (below_set HB9.out hgw _ _)⟩
        by_cases hS3 : SV = vNone
        · rw [decide_eq_false hS1] at ts1
          rw [decide_eq_false hS2] at ts2
          rw [decide_eq_true hS3] at ts3
          have HFo3 := Lib.hid (show (left m2 r2).foldl BakeMath.step ⟨n, v, p2, a2, se || k3, ht || k4, 3⟩ = F by
            have h := HFo2.out
            rw [HSi.out, if_neg hS1, if_neg hS2, if_pos hS3] at h
            exact h)
          clear HSi HFo2 hS1 hS2 hS3
          go_wp2
          go_roundg (if m2 = true then r2.length + 1 else 0)
          case measure => exact HM.out
          case rel => exact ⟨r2, m2, p2, a2, se || k3, ht || k4, 3, rfl, rfl, rfl, HRb2, hr2l, HFo3, Lib.hid (HRow9.out.set 6 _), Lib.hid (lies_other HRes9.out HNe.out), Lib.hid (below_set HB9.out hgw _ _)⟩
        rw [decide_eq_false hS1] at ts1
        rw [decide_eq_false hS2] at ts2
        rw [decide_eq_false hS3] at ts3
        have HFo3 := Lib.hid (show (left m2 r2).foldl BakeMath.step ⟨n, v, p2, a2, se || k3, ht || k4, 0⟩ = F by
          have h := HFo2.out
          rw [HSi.out, if_neg hS1, if_neg hS2, if_neg hS3] at h
          exact h)
        clear HSi HFo2 hS1 hS2 hS3
        go_wp2
        go_roundg (if m2 = true then r2.length + 1 else 0)
        case measure => exact HM.out
        case rel => exact ⟨r2, m2, p2, a2, se || k3, ht || k4, 0, rfl, rfl, rfl, HRb2, hr2l, HFo3, HRow9, HRes9, HB9⟩
end Go.Proofs.YtlgofepmdjlpgaaDoor
