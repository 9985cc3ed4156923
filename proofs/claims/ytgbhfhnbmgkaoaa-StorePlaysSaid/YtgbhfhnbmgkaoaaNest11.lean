/-
  maps.DeleteFunc over a session's map. The conditions: what the function literal asks.
-/
import Derived.Test.YtgbhfhnbmgkaoaaPart23
import Derived.Test.YtgbhfhnbmgkaoaaNestMath
import Derived.Deep.Cut
import Derived.Deep.CutRange
import Derived.Deep.LoopGhost
import Derived.Laws.IdiomRangeMap
namespace Go.Proofs.Ytgbhfhnbmgkaoaa
open Go.RowKit Go.Maps TextNat RegMath

abbrev EntK := ByteArray × RegV
theorem CameE.drop {ys cs : List EntK} {left : Lit → Bool} {x : EntK} (h : CameE ys left (cs ++ [x])) (ha : ys.Pairwise fun p q => p.1 ≠ q.1) : CameE (ys.filter fun y => decide (y.1 ≠ x.1)) left cs := by
  obtain ⟨rest, hp, h1, h2⟩ := h
  have e : cs ++ [x] ++ rest = cs ++ x :: rest := by simp
  rw [e] at hp
  have hp2 : ys.Perm (x :: (cs ++ rest)) := hp.trans List.perm_middle
  have ha2 : (x :: (cs ++ rest)).Pairwise fun p q => p.1 ≠ q.1 := (hp2.pairwise_iff fun h e => h e.symm).1 ha
  obtain ⟨a1, _⟩ := List.pairwise_cons.1 ha2
  refine ⟨rest, ?_, fun y hy => h1 y (List.mem_append_left _ hy), h2⟩
  refine (hp2.filter _).trans ?_
  rw [List.filter_cons_of_neg (by simp)]
  exact List.Perm.of_eq (List.filter_eq_self.2 fun y hy => decide_eq_true (show y.1 ≠ x.1 from fun e => a1 y hy e.symm))
/-- A sweep of a map on its way. -/
structure SwpE (f : Int) (l ys cs : List EntK) (D : DataW Unit) (left : Lit → Bool) : Prop where
  came : CameE ys left cs
  same : (l.filter (keptE f)).Perm (ys.filter (keptE f))
  kept : ∀ x ∈ cs, keptE f x = true
  holds : Holds16 tk cellE D ys
theorem SwpE.start {f : Int} {l : List EntK} {D : DataW Unit} (h : Holds16 tk cellE D l) : SwpE f l l [] D (Maps.has D) := ⟨CameE.start h, List.Perm.refl _, fun x hx => by simp at hx, h⟩
theorem SwpE.stays {f : Int} {l ys cs : List EntK} {D : DataW Unit} {left left' : Lit → Bool} (h : SwpE f l ys cs D left) {x : EntK} (hx : keptE f x = true) (hc : CameE ys left' (cs ++ [x])) : SwpE f l ys (cs ++ [x]) D left' :=
  ⟨hc, h.same, fun y hy => by
    rcases List.mem_append.1 hy with h1 | h1
    · exact h.kept y h1
    · rw [List.mem_singleton.1 h1]; exact hx, h.holds⟩
theorem SwpE.goes {f : Int} {l ys cs : List EntK} {D : DataW Unit} {left left' : Lit → Bool} (h : SwpE f l ys cs D left) {x : EntK} (hxm : x ∈ ys) (hx : keptE f x = false) (hc : CameE ys left' (cs ++ [x])) : SwpE f l (ys.filter fun y => decide (y.1 ≠ x.1)) cs (D.del (tk.lit x.1)) left' := by
  refine ⟨hc.drop h.holds.apart, ?_, h.kept, h.holds.del (h.holds.fits _ hxm)⟩
  refine h.same.trans (List.Perm.of_eq ?_)
  rw [List.filter_filter]
  refine List.filter_congr fun y hy => ?_
  by_cases e : y.1 = x.1
  · have e2 : y = x := h.holds.one hy hxm e
    rw [e2, hx]; rfl
  · rw [decide_eq_true e, Bool.and_true]
/-- .. struck once more. -/
theorem SwpE.strike {f : Int} {l ys cs : List EntK} {D D0 : DataW Unit} {left : Lit → Bool} {x : EntK} (h : SwpE f l (ys.filter fun y => decide (y.1 ≠ x.1)) cs D left) (hx : x ∈ ys) (h0 : Holds16 tk cellE D0 ys) :
    SwpE f l (ys.filter fun y => decide (y.1 ≠ x.1)) cs D (fun z => left z && !z.sameKey (tk.lit x.1)) := by
  obtain ⟨⟨rest, hp, h1, h2⟩, h3, h4, h5⟩ := h
  have hfx := h0.fits _ hx
  refine ⟨⟨rest, hp, fun y hy => ?_, fun y hy => ?_⟩, h3, h4, h5⟩
  · show (left (tk.lit y.1) && !(tk.lit y.1).sameKey (tk.lit x.1)) = false
    rw [h1 y hy]; rfl
  · show (left (tk.lit y.1) && !(tk.lit y.1).sameKey (tk.lit x.1)) = true
    have hy2 := hp.mem_iff.2 (List.mem_append_right _ hy)
    obtain ⟨hy3, hy4⟩ := List.mem_filter.1 hy2
    rw [h2 y hy, sameKey_ne fun e => (of_decide_eq_true hy4) (tk.lit_one (h0.fits _ hy3) hfx e)]
    rfl
theorem SwpE.ended {f : Int} {l ys cs : List EntK} {D : DataW Unit} {left : Lit → Bool} (h : SwpE f l ys cs D left) (hp : ys.Perm cs) : Holds16 tk cellE D (l.filter (keptE f)) := by
  have e : ys.filter (keptE f) = ys := List.filter_eq_self.2 fun y hy => h.kept y (hp.mem_iff.1 hy)
  have hs := h.same
  rw [e] at hs
  exact h.holds.perm hs.symm
set_option maxRecDepth 100000 in
/-- What the function literal asks. -/
theorem swept16 (k : ByteArray) (x : RegV) (f : Int) (F : Nat) (W : World) (hF : W.cell? ⟨F, 0, none⟩ = some (.int .i64 f)) :
    Calls Try.prog 36 #[.string k, .agg #[.int .i64 x.time, .int .i64 x.region, .string x.value, .bool x.gone, .int .i64 x.life], .pointer (some ⟨F, 0, none⟩)] W fun e w' => e = .returned (.bool (!keptE f (k, x))) ∧ Below W.heap.size W w' := by
  have HB0 := Lib.hid (World.block_lt_of_cell? W _ hF)
  have hF2 := ((Below.refl W.heap.size W).alloc (Nat.le_refl _) (.cells #[.int .i64 x.time, .int .i64 x.region, .string x.value, .bool x.gone, .int .i64 x.life] 48)).cell (p := ⟨F, 0, none⟩) HB0.out
  rw [hF] at hF2
  have HB := Lib.hid ((Below.refl W.heap.size W).alloc (Nat.le_refl _) (.cells #[.int .i64 x.time, .int .i64 x.region, .string x.value, .bool x.gone, .int .i64 x.life] 48))
  cases hg : x.gone with
  | false =>
    have HK := Lib.hid (show (!keptE f (k, x)) = false by unfold keptE; rw [show (k, x).2.gone = false from hg]; rfl)
    rw [hg] at HB
    clear hg hF2
    go_enter Try.func36, Try.ntmps36
    go_wp2
    go_ret
    exact ⟨by rw [HK.out]; rfl, HB.out⟩
  | true =>
    rw [hg] at HB hF2
    by_cases ht : x.time ≤ f
    · have t1 : decide (x.time ≤ f) = true := decide_eq_true ht
      have HK := Lib.hid (show (!keptE f (k, x)) = true by unfold keptE; rw [show (k, x).2.gone = true from hg, decide_eq_false (show ¬ f < (k, x).2.time by show ¬ f < x.time; omega)]; rfl)
      clear hg ht
      go_enter Try.func36, Try.ntmps36
      go_wp2
      go_ret
      exact ⟨by rw [HK.out]; rfl, HB.out⟩
    · have t1 : decide (x.time ≤ f) = false := decide_eq_false ht
      have HK := Lib.hid (show (!keptE f (k, x)) = false by unfold keptE; rw [show (k, x).2.gone = true from hg, decide_eq_true (show f < (k, x).2.time by show f < x.time; omega)]; rfl)
      clear hg ht
      go_enter Try.func36, Try.ntmps36
      go_wp2
      go_ret
      exact ⟨by rw [HK.out]; rfl, HB.out⟩
set_option maxRecDepth 100000 in
set_option maxHeartbeats 8000000 in
theorem delete16 (f : Int) (F bm : Nat) (l : List EntK) (w : World) (hx : MapAt cellE w (some bm) l) (hF : w.cell? ⟨F, 0, none⟩ = some (.int .i64 f)) (hne : F ≠ bm) :
    Calls Try.prog 35 #[.map (some bm), .func (.func 36) #[] #[.pointer (some ⟨F, 0, none⟩)]] w fun e w' =>
      e = .returned (.tuple #[]) ∧ MapAt cellE w' (some bm) (l.filter (keptE f)) ∧ But bm w w' := by
  obtain ⟨D, hD1, hD2⟩ := hx
  have HD1 := Lib.hid hD1
  have HD2 := Lib.hid hD2
  have HFl := Lib.hid (And.intro (World.block_lt_of_cell? w _ hF) (ownsMap_lt hD1))
  have HFc := Lib.hid hF
  have HNe := Lib.hid hne
  clear hD1 hD2 hF hne
  go_enter Try.func35, Try.ntmps35
  go_wp2_with (at_range; refine wpList_range_own _ rfl _ 70 rfl 9 48 tk.law Try.underlying70 cellE.read bm l.length D rfl HD1.out ?_; intro w0 hrg0 hg0 hs0)
  try go_frame
  have HR0 := Lib.hid hrg0
  have HB0 := Lib.hid (show But bm w w0 from But.of ((Below.refl _ w).grown hg0 (Nat.le_refl _) (fun j hj => by cases hj)))
  obtain ⟨r, hr⟩ : ∃ r, r = w.heap.size := ⟨_, rfl⟩
  have HRe := Lib.hid hr
  rw [← hr] at HR0 ⊢
  have HS0 := Lib.hid (show r + 1 ≤ w0.heap.size by rw [hs0, hr]; exact Nat.le_refl _)
  have HC0 := Lib.hid (SwpE.start (f := f) HD2.out)
  clear hrg0 hg0 hs0 hr
  go_loopg [] (Maps.size D) (fun gh wx => ∃ (left : Lit → Bool) (ys cs : List EntK) (D1 : DataW Unit), Hid (wx.ranges Try.prog 9 cellE.read bm r l.length D1 left gh) ∧ Hid (SwpE f l ys cs D1 left) ∧ Hid (But bm w wx) ∧ Hid (r + 1 ≤ wx.heap.size))
  case atStart => exact ⟨_, l, [], D, HR0, HC0, HB0, HS0⟩
  case round =>
    obtain ⟨left, ys, cs, D1, HR, HC, HB, HS⟩ := hrel
    rename World => W1
    go_wp2_with (at_next; refine wpList_next_text cellE _ rfl _ rfl bm r l.length D1 ys cs left _ rfl HR.out HC.out.holds HC.out.came ?_ ?_)
    · intro hp
      have HE := Lib.hid (HC.out.ended hp)
      have HO := Lib.hid HR.out.owns
      clear hp HR HC
      go_wp2
      go_end0
      exact ⟨rfl, MapAt.of HO.out HE.out, HB.out⟩
    · intro k x w2 cnt' left' hxm hrg hlt hcame hg2 hsz hen
      have HR2 := Lib.hid hrg
      have HC2 := Lib.hid hcame
      have HB2 := Lib.hid (show But bm w w2 from ⟨hg2.os.trans HB.out.os, hg2.tape.trans HB.out.tape, hg2.output.trans HB.out.output, Nat.le_trans HB.out.size hg2.size, fun k hk hn => (hg2.block k (Nat.lt_of_lt_of_le hk HB.out.size) (by intro e; have e1 := Option.some.inj e; have e2 := HRe.out; omega)).trans (HB.out.block k hk hn)⟩)
      have HS2 := Lib.hid (show r + 1 ≤ w2.heap.size by rw [hsz]; exact HS.out)
      have HLt := Lib.hid hlt
      have HXm := Lib.hid hxm
      have HSw := Lib.hid HC.out
      clear hrg hlt hcame hg2 hsz hxm HR HC HB HS
      simp only [cellE, RegV.val] at hen
      simp only [cellE, RegV.val]
      go_upto_region 3 with fail
      obtain ⟨Y, hY⟩ : ∃ Y, Y = w2.heap.size := ⟨_, rfl⟩
      obtain ⟨W4, hW4⟩ : ∃ W4, W4 = w2.alloc (.cells #[.int .i64 x.time, .int .i64 x.region, .string x.value, .bool x.gone, .int .i64 x.life] 48) := ⟨_, rfl⟩
      have b24 : Below w2.heap.size w2 W4 := by rw [hW4]; exact (Below.refl _ _).alloc (Nat.le_refl _) _
      have LZ := Lib.hid (show Lies W4 Y [.int .i64 x.time, .int .i64 x.region, .string x.value, .bool x.gone, .int .i64 x.life] 48 by rw [hW4, hY]; exact Lies.new w2 _ _)
      have HBr := Lib.hid (show bm < r + 1 ∧ r < r + 1 from ⟨by have := HFl.out.2; have := HRe.out; omega, by omega⟩)
      have HR4 := Lib.hid (ranges_below HR2.out b24 (Nat.lt_of_lt_of_le HBr.out.1 HS2.out) (Nat.lt_of_lt_of_le HBr.out.2 HS2.out))
      have HB4 := Lib.hid (HB2.out.trans (But.of b24))
      have HS4 := Lib.hid (Nat.le_trans HS2.out b24.size)
      have HV := Lib.hid (swept16 k x f F W4 ((HB4.out.cell HFl.out.1 HNe.out).trans HFc.out))
      rw [← hW4, ← hY]
      clear hY hW4 b24 hen
      have d0 := LZ.out.cell (i := 0) rfl; have d1 := LZ.out.cell (i := 1) rfl; have d2 := LZ.out.cell (i := 2) rfl; have d3 := LZ.out.cell (i := 3) rfl; have d4 := LZ.out.cell (i := 4) rfl
      cases hk : keptE f (k, x) with
      | true =>
        rw [hk] at HV
        have HC5 := Lib.hid (HSw.out.stays hk HC2.out)
        clear hk
        go_wp2_with fail
        refine HV.out.mono ?_
        rintro e w5 ⟨rfl, hb⟩
        have HR5 := Lib.hid (ranges_below HR4.out (hb.mono HS4.out) HBr.out.1 HBr.out.2)
        have HB5 := Lib.hid (HB4.out.trans (But.of hb))
        have HS5 := Lib.hid (Nat.le_trans HS4.out hb.size)
        clear hb d0 d1 d2 d3 d4
        go_wp2
        go_roundg cnt'
        case measure => exact HLt.out
        case rel => exact ⟨left', ys, _, D1, HR5, HC5, HB5, HS5⟩
      | false =>
        rw [hk] at HV
        have HC5 := Lib.hid (HSw.out.goes HXm.out hk HC2.out)
        clear hk
        go_wp2_with fail
        refine HV.out.mono ?_
        rintro e w5 ⟨rfl, hb⟩
        have HR5 := Lib.hid (ranges_below HR4.out (hb.mono HS4.out) HBr.out.1 HBr.out.2)
        have HB5 := Lib.hid (HB4.out.trans (But.of hb))
        have HS5 := Lib.hid (Nat.le_trans HS4.out hb.size)
        clear hb d0 d1 d2 d3 d4
        have HFt := Lib.hid (HSw.out.holds.fits _ HXm.out)
        go_wp2_with (at_delete; refine wpList_delete_ranges _ rfl _ _ 70 9 rfl 48 tk.law Try.underlying70 cellE.read bm r l.length D1 left' cnt' rfl HR5.out _ _ rfl (tk.is k HFt.out) ?_; intro w6 cnt6 hrg6 hle hturn; have HR6 := Lib.hid hrg6; have HLe := Lib.hid hle; have HB6 := Lib.hid (HB5.out.trans (show But bm w5 w6 from ⟨hturn.grown.os, hturn.grown.tape, hturn.grown.output, hturn.grown.size, fun k hk hn => hturn.grown.block k hk (fun e => hn (Option.some.inj e))⟩)); have HS6 := Lib.hid (Nat.le_trans HS5.out hturn.grown.size); clear hrg6 hle hturn)
        try go_frame
        go_roundg cnt6
        case measure => have h1 := HLt.out; have h2 := HLe.out; omega
        case rel => exact ⟨_, _, cs, _, HR6, Lib.hid (HC5.out.strike HXm.out HSw.out.holds), HB6, HS6⟩
end Go.Proofs.Ytgbhfhnbmgkaoaa
