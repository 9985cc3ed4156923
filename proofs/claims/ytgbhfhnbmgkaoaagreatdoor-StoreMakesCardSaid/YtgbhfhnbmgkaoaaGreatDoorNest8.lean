/-
  The names in a map that a function asks for, rising. The conditions: at most 1000 names of at most 1000 bytes; what is asked of the function.
-/
import Derived.Test.YtgbhfhnbmgkaoaaGreatDoorPart23
import Derived.Test.YtgbhfhnbmgkaoaaGreatDoorFlatSort
import Derived.Test.YtgbhfhnbmgkaoaaGreatDoorPart10
import Derived.Deep.Cut
import Derived.Deep.CutRange
import Derived.Deep.LoopGhost
import Derived.Laws.IdiomRangeMap
namespace Go.Proofs.YtgbhfhnbmgkaoaaGreatDoor
open Go.RowKit Go.Maps TextNat RegMath

theorem came_names {α : Type} (q : ByteArray × α → Bool) (cs : List (ByteArray × α)) (x : ByteArray × α) : ((cs ++ [x]).filter q).map Prod.fst = (cs.filter q).map Prod.fst ++ (if q x = true then [x.1] else []) := by
  rw [List.filter_append, List.map_append]
  congr 1
  by_cases h : q x = true
  · rw [if_pos h, List.filter_cons_of_pos h]; rfl
  · rw [if_neg h, List.filter_cons_of_neg h]; rfl
theorem came_sorted {α : Type} {q : ByteArray × α → Bool} {l cs : List (ByteArray × α)} {C : List ByteArray} (ha : l.Pairwise fun p q => p.1 ≠ q.1) (hp : l.Perm cs) (hC : (C.map nats).Pairwise fun x y => lex x y = true) (hm : ∀ x, x ∈ C ↔ ∃ c, (x, c) ∈ l ∧ q (x, c) = true) : sortT ((cs.filter q).map Prod.fst) = C := by
  have ha2 : cs.Pairwise fun p q => p.1 ≠ q.1 := (hp.pairwise_iff fun h e => h e.symm).1 ha
  refine sortT_is (List.pairwise_map.2 (ha2.filter _)) hC fun x => ?_
  rw [hm x, List.mem_map]
  constructor
  · rintro ⟨⟨y, c⟩, hy, rfl⟩
    obtain ⟨h1, h2⟩ := List.mem_filter.1 hy
    exact ⟨c, hp.mem_iff.2 h1, h2⟩
  · rintro ⟨c, h1, h2⟩
    exact ⟨(x, c), List.mem_filter.2 ⟨hp.mem_iff.1 h1, h2⟩, rfl⟩
set_option maxRecDepth 100000 in
set_option maxHeartbeats 8000000 in
theorem risingMap16 (m : Option Nat) (l : List (ByteArray × Option Nat)) (q : ByteArray × Option Nat → Bool) (C : List ByteArray) (g : Nat) (cb : Array Value) (w : World) (h : MapAt mapE w m l) (hl : l.length ≤ 1000) (hs : ∀ p ∈ l, p.1.size ≤ 1000) (hC : (C.map nats).Pairwise fun x y => lex x y = true) (hm : ∀ x, x ∈ C ↔ ∃ c, (x, c) ∈ l ∧ q (x, c) = true)
    (eg : ∀ args w, (callFunc g args).run Tryz.prog w = .ok (.enter g args) w)
    (hq : ∀ p ∈ l, ∀ W, Below w.heap.size w W → Calls Tryz.prog g (#[.string p.1, mapE.val p.2] ++ cb) W fun e w' => e = .returned (.bool (q p)) ∧ Below W.heap.size W w') :
    Calls Tryz.prog 55 #[.map m, .func (.func g) #[] cb] w fun e w' => (∃ p c, e = .returned (.slice p C.length c) ∧ C.length ≤ c ∧ c ≤ 9223372036854775807 ∧ TextsAt w' p C) ∧ Below w.heap.size w w' := by
  cases m with
  | none =>
    have hl0 : l = [] := h
    subst hl0
    have hC0 : C = [] := List.eq_nil_iff_forall_not_mem.2 fun x hx => by
      obtain ⟨c, hc, _⟩ := (hm x).1 hx
      cases hc
    subst hC0
    have hr := run_range_nilMap (P := Tryz.prog) w 89 9 88 Tryz.underlying89
    have hn := fun ty => run_next_nilMap (P := Tryz.prog) w ty 0 0 #[]
    have HS := Lib.hid (fun B w hB => sort16 B (.slice none 0 0) [] w (OwnT16.nil w B) (Nat.zero_le _) hB)
    have HB0 := Lib.hid ((Below.refl w.heap.size w).alloc (Nat.le_refl _) (.mapIter none 0 #[] 0))
    clear hm hC hq eg h
    go_enter Tryz.func55, Tryz.ntmps55
    go_upto_region 3 with fail
    obtain ⟨W, hW⟩ : ∃ W, W = w.alloc (.mapIter none 0 #[] 0) := ⟨_, rfl⟩
    rw [← hW] at hn HB0 ⊢
    have HSz := Lib.hid (show w.heap.size ≤ W.heap.size from HB0.out.size)
    clear hW hr
    go_loopg [5] 1 (fun gh s5 wx => s5 = .slice none 0 0 ∧ wx = W)
    case atStart => exact ⟨rfl, rfl⟩
    case round =>
      obtain ⟨rfl, hw⟩ := hrel
      rw [hw]
      clear hw
      go_wp2_with fail
      refine (HS.out _ _ (Nat.le_refl _)).mono ?_
      rintro e w7 ⟨rfl, _, hb⟩
      have HB7 := Lib.hid (HB0.out.trans (hb.mono HB0.out.size))
      clear hb
      go_wp2
      go_ret
      exact ⟨⟨none, 0, rfl, Nat.le_refl _, by omega, fun i x hx => by simp at hx⟩, HB7.out⟩
  | some bm =>
  obtain ⟨D, hD1, hD2⟩ := h
  have HD1 := Lib.hid hD1
  have HH := Lib.hid hD2
  have HQ := Lib.hid hq
  have HLs := Lib.hid (And.intro hl hs)
  have HCm := Lib.hid (And.intro hC hm)
  have HBl := Lib.hid (ownsMap_lt hD1)
  clear hD1 hD2 hq hl hs hC hm
  go_enter Tryz.func55, Tryz.ntmps55
  go_wp2_with (at_range; refine wpList_range_own _ rfl _ 89 rfl 9 88 tk.law Tryz.underlying89 mapE.read bm l.length D rfl HD1.out ?_; intro w0 hrg0 hg0 hs0)
  go_frame
  have HR0 := Lib.hid hrg0
  have HB0 := Lib.hid (show Below w.heap.size w w0 from (Below.refl _ w).grown hg0 (Nat.le_refl _) (fun j hj => by cases hj))
  obtain ⟨r, hr⟩ : ∃ r, r = w.heap.size := ⟨_, rfl⟩
  have HRe := Lib.hid hr
  rw [← hr] at HR0 ⊢
  have HS0 := Lib.hid (show r + 1 ≤ w0.heap.size by rw [hs0, hr]; exact Nat.le_refl _)
  have HBr := Lib.hid (show bm < r + 1 ∧ r < r + 1 from ⟨by have := HBl.out; omega, by omega⟩)
  have HC0 := Lib.hid (CameE.start HH.out)
  have HO0 := Lib.hid (OwnT16.nil w0 (r + 1))
  clear hrg0 hg0 hs0 hr
  go_loopg [5] (Maps.size D) (fun gh s5 wx => ∃ (left : Lit → Bool) (cs : List (ByteArray × Option Nat)), Hid (wx.ranges Tryz.prog 9 mapE.read bm r l.length D left gh) ∧ Hid (CameE l left cs) ∧ Hid (OwnT16 wx (r + 1) s5 ((cs.filter q).map Prod.fst)) ∧ Hid (Below w.heap.size w wx) ∧ Hid (r + 1 ≤ wx.heap.size))
  case atStart => exact ⟨_, [], HR0, HC0, HO0, HB0, HS0⟩
  case round =>
    obtain ⟨left, cs, HR, HC, HO, HB, HS⟩ := hrel
    rename World => W1
    obtain ⟨A, hA⟩ : ∃ A, A = (cs.filter q).map Prod.fst := ⟨_, rfl⟩
    have HAe := Lib.hid hA
    rw [← hA] at HO
    obtain ⟨p5, c5, hs5, hc5, hm5⟩ := HO.out.shape
    clear hA
    subst hs5
    go_wp2_with (at_next; refine wpList_next_text mapE _ rfl _ rfl bm r l.length D l cs left _ rfl HR.out HH.out HC.out ?_ ?_)
    · intro hp
      have HSo := Lib.hid (show sortT A = C by rw [HAe.out]; exact came_sorted HH.out.apart hp HCm.out.1 HCm.out.2)
      have HLn := Lib.hid (show A.length ≤ 1000 by rw [HAe.out, List.length_map]; exact Nat.le_trans (List.length_filter_le _ _) (Nat.le_trans (CameE.len HC.out) HLs.out.1))
      have HSr := Lib.hid (sort16 (r + 1) _ A W1 HO.out HLn.out HS.out)
      have HNl := Lib.hid (show C.length = A.length by rw [← HSo.out, sortT_len])
      clear hp HR HC
      go_wp2_with (go_at_call 66; refine HSr.out.mono ?_; rintro e w7 ⟨rfl, ho, hb⟩; have HO7 := Lib.hid ho; have HB7 := Lib.hid (HB.out.trans (hb.mono (by have := HRe.out; omega))); clear ho hb)
      go_ret
      refine ⟨⟨p5, c5, by rw [HNl.out]; rfl, by rw [HNl.out]; exact hc5, hm5, ?_⟩, HB7.out⟩
      have := HO7.out
      rw [HSo.out] at this
      exact this.texts
    · intro s c w2 cnt' left' hxm hrg hlt hcame hg2 hsz hen
      have HR2 := Lib.hid hrg
      have HC2 := Lib.hid hcame
      have HCl := Lib.hid HC.out
      have HB2 := Lib.hid (HB.out.grown hg2 HB.out.size (fun q hq => by have := Option.some.inj hq; rw [← this, HRe.out]; exact Nat.le_refl _))
      have HO2 := Lib.hid (HO.out.same fun g h1 h2 => hg2.block g h2 (by intro e; have := Option.some.inj e; omega))
      have HS2 := Lib.hid (show r + 1 ≤ w2.heap.size by rw [hsz]; exact HS.out)
      have HLt := Lib.hid hlt
      have HXm := Lib.hid hxm
      have HT := Lib.hid (show ((cs ++ [(s, c)]).filter q).map Prod.fst = A ++ (if q (s, c) = true then [s] else []) by rw [HAe.out]; exact came_names q cs (s, c))
      clear hrg hlt hcame hg2 hsz hxm HR HC HO HB HS
      have HR4 := HR2; have HB4 := HB2; have HO4 := HO2; have HS4 := HS2
      have HV := Lib.hid (HQ.out (s, c) HXm.out w2 HB2.out)
      have HEn := Lib.hid hen
      clear hen
      have hen := HEn.out
      simp only [mapE] at HV hen
      have HC := Lib.hid (fun w => clone15 s (by have := HLs.out.2 _ HXm.out; have : s.size ≤ 1000 := this; omega) w)
      have HLn := Lib.hid (show A.length ≤ 1000 by rw [HAe.out, List.length_map]; exact Nat.le_trans (List.length_filter_le _ _) (Nat.le_trans (CameE.len (by exact HCl.out)) HLs.out.1))
      cases hk : q (s, c) with
      | false =>
        rw [hk] at HV
        replace HT := Lib.hid (HT.out.trans (by rw [if_neg (by rw [hk]; decide), List.append_nil]))
        clear hk
        go_wp2_with fail
        refine HV.out.mono ?_
        rintro e w5 ⟨rfl, hb⟩
        have HR5 := Lib.hid (ranges_below HR4.out (hb.mono HS4.out) HBr.out.1 HBr.out.2)
        have HB5 := Lib.hid (HB4.out.trans (hb.mono HB4.out.size))
        have HO5 := Lib.hid (HO4.out.below hb)
        have HS5 := Lib.hid (Nat.le_trans HS4.out hb.size)
        clear hb
        go_wp2
        go_roundg cnt'
        case measure => exact HLt.out
        case rel => exact ⟨left', _, HR5, HC2, by rw [HT.out]; exact HO5, HB5, HS5⟩
      | true =>
        rw [hk] at HV
        replace HT := Lib.hid (HT.out.trans (by rw [if_pos hk]))
        clear hk
        go_wp2_with fail
        refine HV.out.mono ?_
        rintro e w5 ⟨rfl, hb⟩
        have HR5 := Lib.hid (ranges_below HR4.out (hb.mono HS4.out) HBr.out.1 HBr.out.2)
        have HB5 := Lib.hid (HB4.out.trans (hb.mono HB4.out.size))
        have HO5 := Lib.hid (HO4.out.below hb)
        have HS5 := Lib.hid (Nat.le_trans HS4.out hb.size)
        clear hb
        go_wp2_with fail
        refine (HC.out _).mono ?_
        rintro e w6 ⟨rfl, hb⟩
        have HR6 := Lib.hid (ranges_below HR5.out (hb.mono HS5.out) HBr.out.1 HBr.out.2)
        have HB6 := Lib.hid (HB5.out.trans (hb.mono HB5.out.size))
        have HO6 := Lib.hid (HO5.out.below hb)
        have HS6 := Lib.hid (Nat.le_trans HS5.out hb.size)
        clear hb
        have ha := fun (o : Obj) => (Below.refl w6.heap.size w6).alloc (Nat.le_refl _) o
        have HA7 := Lib.hid ha
        have HN7 := Lib.hid (show (w6.alloc (.cells #[.string s] 9)).cell? ⟨w6.heap.size, 0, none⟩ = some (.string s) from Lies.cell (i := 0) (Lies.new w6 [.string s] 9) rfl)
        clear ha
        go_wp2_with (at_builtin; refine app_text16 rfl _ _ rfl (r + 1) _ A s rfl (HO6.out.below (HA7.out _)) w6.heap.size 1 rfl HN7.out (by have := HLn.out; omega) (Nat.le_trans HS6.out (HA7.out _).size) ?_; intro v8 w8 h1 h2; have HO8 := Lib.hid h1; have HP8 := Lib.hid (((HA7.out (.cells #[.string s] 9)).mono HS6.out).trans h2); clear h1 h2)
        have HR8 := Lib.hid (ranges_below HR6.out HP8.out HBr.out.1 HBr.out.2)
        have HB8 := Lib.hid (HB6.out.trans (HP8.out.mono (by have := HRe.out; omega)))
        have HS8 := Lib.hid (Nat.le_trans HS6.out HP8.out.size)
        go_roundg cnt'
        case measure => exact HLt.out
        case rel => exact ⟨left', _, HR8, HC2, by rw [HT.out]; exact HO8, HB8, HS8⟩
set_option maxRecDepth 100000 in
set_option maxHeartbeats 8000000 in
theorem risingCell16 (m : Option Nat) (l : List (ByteArray × RegV)) (q : ByteArray × RegV → Bool) (C : List ByteArray) (g : Nat) (cb : Array Value) (w : World) (h : MapAt cellE w m l) (hl : l.length ≤ 1000) (hs : ∀ p ∈ l, p.1.size ≤ 1000) (hC : (C.map nats).Pairwise fun x y => lex x y = true) (hm : ∀ x, x ∈ C ↔ ∃ c, (x, c) ∈ l ∧ q (x, c) = true)
    (eg : ∀ args w, (callFunc g args).run Tryz.prog w = .ok (.enter g args) w)
    (hq : ∀ p ∈ l, ∀ W, Below w.heap.size w W → Calls Tryz.prog g (#[.string p.1, cellE.val p.2] ++ cb) W fun e w' => e = .returned (.bool (q p)) ∧ Below W.heap.size W w') :
    Calls Tryz.prog 53 #[.map m, .func (.func g) #[] cb] w fun e w' => (∃ p c, e = .returned (.slice p C.length c) ∧ C.length ≤ c ∧ c ≤ 9223372036854775807 ∧ TextsAt w' p C) ∧ Below w.heap.size w w' := by
  cases m with
  | none =>
    have hl0 : l = [] := h
    subst hl0
    have hC0 : C = [] := List.eq_nil_iff_forall_not_mem.2 fun x hx => by
      obtain ⟨c, hc, _⟩ := (hm x).1 hx
      cases hc
    subst hC0
    have hr := run_range_nilMap (P := Tryz.prog) w 88 9 58 Tryz.underlying88
    have hn := fun ty => run_next_nilMap (P := Tryz.prog) w ty 0 0 #[]
    have HS := Lib.hid (fun B w hB => sort16 B (.slice none 0 0) [] w (OwnT16.nil w B) (Nat.zero_le _) hB)
    have HB0 := Lib.hid ((Below.refl w.heap.size w).alloc (Nat.le_refl _) (.mapIter none 0 #[] 0))
    clear hm hC hq eg h
    go_enter Tryz.func53, Tryz.ntmps53
    go_upto_region 3 with fail
    obtain ⟨W, hW⟩ : ∃ W, W = w.alloc (.mapIter none 0 #[] 0) := ⟨_, rfl⟩
    rw [← hW] at hn HB0 ⊢
    have HSz := Lib.hid (show w.heap.size ≤ W.heap.size from HB0.out.size)
    clear hW hr
    go_loopg [5] 1 (fun gh s5 wx => s5 = .slice none 0 0 ∧ wx = W)
    case atStart => exact ⟨rfl, rfl⟩
    case round =>
      obtain ⟨rfl, hw⟩ := hrel
      rw [hw]
      clear hw
      go_wp2_with fail
      refine (HS.out _ _ (Nat.le_refl _)).mono ?_
      rintro e w7 ⟨rfl, _, hb⟩
      have HB7 := Lib.hid (HB0.out.trans (hb.mono HB0.out.size))
      clear hb
      go_wp2
      go_ret
      exact ⟨⟨none, 0, rfl, Nat.le_refl _, by omega, fun i x hx => by simp at hx⟩, HB7.out⟩
  | some bm =>
  obtain ⟨D, hD1, hD2⟩ := h
  have HD1 := Lib.hid hD1
  have HH := Lib.hid hD2
  have HQ := Lib.hid hq
  have HLs := Lib.hid (And.intro hl hs)
  have HCm := Lib.hid (And.intro hC hm)
  have HBl := Lib.hid (ownsMap_lt hD1)
  clear hD1 hD2 hq hl hs hC hm
  go_enter Tryz.func53, Tryz.ntmps53
  go_wp2_with (at_range; refine wpList_range_own _ rfl _ 88 rfl 9 58 tk.law Tryz.underlying88 cellE.read bm l.length D rfl HD1.out ?_; intro w0 hrg0 hg0 hs0)
  go_frame
  have HR0 := Lib.hid hrg0
  have HB0 := Lib.hid (show Below w.heap.size w w0 from (Below.refl _ w).grown hg0 (Nat.le_refl _) (fun j hj => by cases hj))
  obtain ⟨r, hr⟩ : ∃ r, r = w.heap.size := ⟨_, rfl⟩
  have HRe := Lib.hid hr
  rw [← hr] at HR0 ⊢
  have HS0 := Lib.hid (show r + 1 ≤ w0.heap.size by rw [hs0, hr]; exact Nat.le_refl _)
  have HBr := Lib.hid (show bm < r + 1 ∧ r < r + 1 from ⟨by have := HBl.out; omega, by omega⟩)
  have HC0 := Lib.hid (CameE.start HH.out)
  have HO0 := Lib.hid (OwnT16.nil w0 (r + 1))
  clear hrg0 hg0 hs0 hr
  go_loopg [5] (Maps.size D) (fun gh s5 wx => ∃ (left : Lit → Bool) (cs : List (ByteArray × RegV)), Hid (wx.ranges Tryz.prog 9 cellE.read bm r l.length D left gh) ∧ Hid (CameE l left cs) ∧ Hid (OwnT16 wx (r + 1) s5 ((cs.filter q).map Prod.fst)) ∧ Hid (Below w.heap.size w wx) ∧ Hid (r + 1 ≤ wx.heap.size))
  case atStart => exact ⟨_, [], HR0, HC0, HO0, HB0, HS0⟩
  case round =>
    obtain ⟨left, cs, HR, HC, HO, HB, HS⟩ := hrel
    rename World => W1
    obtain ⟨A, hA⟩ : ∃ A, A = (cs.filter q).map Prod.fst := ⟨_, rfl⟩
    have HAe := Lib.hid hA
    rw [← hA] at HO
    obtain ⟨p5, c5, hs5, hc5, hm5⟩ := HO.out.shape
    clear hA
    subst hs5
    go_wp2_with (at_next; refine wpList_next_text cellE _ rfl _ rfl bm r l.length D l cs left _ rfl HR.out HH.out HC.out ?_ ?_)
    · intro hp
      have HSo := Lib.hid (show sortT A = C by rw [HAe.out]; exact came_sorted HH.out.apart hp HCm.out.1 HCm.out.2)
      have HLn := Lib.hid (show A.length ≤ 1000 by rw [HAe.out, List.length_map]; exact Nat.le_trans (List.length_filter_le _ _) (Nat.le_trans (CameE.len HC.out) HLs.out.1))
      have HSr := Lib.hid (sort16 (r + 1) _ A W1 HO.out HLn.out HS.out)
      have HNl := Lib.hid (show C.length = A.length by rw [← HSo.out, sortT_len])
      clear hp HR HC
      go_wp2_with (go_at_call 66; refine HSr.out.mono ?_; rintro e w7 ⟨rfl, ho, hb⟩; have HO7 := Lib.hid ho; have HB7 := Lib.hid (HB.out.trans (hb.mono (by have := HRe.out; omega))); clear ho hb)
      go_ret
      refine ⟨⟨p5, c5, by rw [HNl.out]; rfl, by rw [HNl.out]; exact hc5, hm5, ?_⟩, HB7.out⟩
      have := HO7.out
      rw [HSo.out] at this
      exact this.texts
    · intro s c w2 cnt' left' hxm hrg hlt hcame hg2 hsz hen
      have HR2 := Lib.hid hrg
      have HC2 := Lib.hid hcame
      have HCl := Lib.hid HC.out
      have HB2 := Lib.hid (HB.out.grown hg2 HB.out.size (fun q hq => by have := Option.some.inj hq; rw [← this, HRe.out]; exact Nat.le_refl _))
      have HO2 := Lib.hid (HO.out.same fun g h1 h2 => hg2.block g h2 (by intro e; have := Option.some.inj e; omega))
      have HS2 := Lib.hid (show r + 1 ≤ w2.heap.size by rw [hsz]; exact HS.out)
      have HLt := Lib.hid hlt
      have HXm := Lib.hid hxm
      have HT := Lib.hid (show ((cs ++ [(s, c)]).filter q).map Prod.fst = A ++ (if q (s, c) = true then [s] else []) by rw [HAe.out]; exact came_names q cs (s, c))
      clear hrg hlt hcame hg2 hsz hxm HR HC HO HB HS
      obtain ⟨ct, cr, cv, cg, cl⟩ := c
      simp only [cellE, RegV.val] at hen
      simp only [cellE, RegV.val]
      go_upto_region 5 with fail
      obtain ⟨Z, hZ⟩ : ∃ Z, Z = w2.heap.size := ⟨_, rfl⟩
      obtain ⟨W4, hW4⟩ : ∃ W4, W4 = w2.alloc (.cells #[.int .i64 ct, .int .i64 cr, .string cv, .bool cg, .int .i64 cl] 58) := ⟨_, rfl⟩
      have b24 : Below w2.heap.size w2 W4 := by rw [hW4]; exact (Below.refl _ _).alloc (Nat.le_refl _) _
      have LZ := Lib.hid (show Lies W4 Z [.int .i64 ct, .int .i64 cr, .string cv, .bool cg, .int .i64 cl] 58 by rw [hW4, hZ]; exact Lies.new w2 _ _)
      have HR4 := Lib.hid (ranges_below HR2.out (b24.mono HS2.out) HBr.out.1 HBr.out.2)
      have HB4 := Lib.hid (HB2.out.trans (b24.mono HB2.out.size))
      have HO4 := Lib.hid (HO2.out.below b24)
      have HS4 := Lib.hid (Nat.le_trans HS2.out b24.size)
      rw [← hW4, ← hZ]
      clear hZ hW4 b24 hen
      have d0 := LZ.out.cell (i := 0) rfl; have d1 := LZ.out.cell (i := 1) rfl; have d2 := LZ.out.cell (i := 2) rfl; have d3 := LZ.out.cell (i := 3) rfl; have d4 := LZ.out.cell (i := 4) rfl
      obtain ⟨c, hc⟩ : ∃ c : RegV, c = ⟨ct, cr, cv, cg, cl⟩ := ⟨_, rfl⟩
      rw [← hc] at HXm HT HC2
      have HV := Lib.hid (HQ.out (s, c) HXm.out W4 HB4.out)
      have hV2 : cellE.val (s, c).2 = .agg #[.int .i64 ct, .int .i64 cr, .string cv, .bool cg, .int .i64 cl] := by rw [hc]; rfl
      rw [hV2] at HV
      clear hV2 hc
      have HC := Lib.hid (fun w => clone15 s (by have := HLs.out.2 _ HXm.out; have : s.size ≤ 1000 := this; omega) w)
      have HLn := Lib.hid (show A.length ≤ 1000 by rw [HAe.out, List.length_map]; exact Nat.le_trans (List.length_filter_le _ _) (Nat.le_trans (CameE.len (by exact HCl.out)) HLs.out.1))
      cases hk : q (s, c) with
      | false =>
        rw [hk] at HV
        replace HT := Lib.hid (HT.out.trans (by rw [if_neg (by rw [hk]; decide), List.append_nil]))
        clear hk
        go_wp2_with fail
        refine HV.out.mono ?_
        rintro e w5 ⟨rfl, hb⟩
        have HR5 := Lib.hid (ranges_below HR4.out (hb.mono HS4.out) HBr.out.1 HBr.out.2)
        have HB5 := Lib.hid (HB4.out.trans (hb.mono HB4.out.size))
        have HO5 := Lib.hid (HO4.out.below hb)
        have HS5 := Lib.hid (Nat.le_trans HS4.out hb.size)
        clear hb
        go_wp2
        go_roundg cnt'
        case measure => exact HLt.out
        case rel => exact ⟨left', _, HR5, HC2, by rw [HT.out]; exact HO5, HB5, HS5⟩
      | true =>
        rw [hk] at HV
        replace HT := Lib.hid (HT.out.trans (by rw [if_pos hk]))
        clear hk
        go_wp2_with fail
        refine HV.out.mono ?_
        rintro e w5 ⟨rfl, hb⟩
        have HR5 := Lib.hid (ranges_below HR4.out (hb.mono HS4.out) HBr.out.1 HBr.out.2)
        have HB5 := Lib.hid (HB4.out.trans (hb.mono HB4.out.size))
        have HO5 := Lib.hid (HO4.out.below hb)
        have HS5 := Lib.hid (Nat.le_trans HS4.out hb.size)
        clear hb d0 d1 d2 d3 d4
        go_wp2_with fail
        refine (HC.out _).mono ?_
        rintro e w6 ⟨rfl, hb⟩
        have HR6 := Lib.hid (ranges_below HR5.out (hb.mono HS5.out) HBr.out.1 HBr.out.2)
        have HB6 := Lib.hid (HB5.out.trans (hb.mono HB5.out.size))
        have HO6 := Lib.hid (HO5.out.below hb)
        have HS6 := Lib.hid (Nat.le_trans HS5.out hb.size)
        clear hb
        have ha := fun (o : Obj) => (Below.refl w6.heap.size w6).alloc (Nat.le_refl _) o
        have HA7 := Lib.hid ha
        have HN7 := Lib.hid (show (w6.alloc (.cells #[.string s] 9)).cell? ⟨w6.heap.size, 0, none⟩ = some (.string s) from Lies.cell (i := 0) (Lies.new w6 [.string s] 9) rfl)
        clear ha
        go_wp2_with (at_builtin; refine app_text16 rfl _ _ rfl (r + 1) _ A s rfl (HO6.out.below (HA7.out _)) w6.heap.size 1 rfl HN7.out (by have := HLn.out; omega) (Nat.le_trans HS6.out (HA7.out _).size) ?_; intro v8 w8 h1 h2; have HO8 := Lib.hid h1; have HP8 := Lib.hid (((HA7.out (.cells #[.string s] 9)).mono HS6.out).trans h2); clear h1 h2)
        have HR8 := Lib.hid (ranges_below HR6.out HP8.out HBr.out.1 HBr.out.2)
        have HB8 := Lib.hid (HB6.out.trans (HP8.out.mono (by have := HRe.out; omega)))
        have HS8 := Lib.hid (Nat.le_trans HS6.out HP8.out.size)
        go_roundg cnt'
        case measure => exact HLt.out
        case rel => exact ⟨left', _, HR8, HC2, by rw [HT.out]; exact HO8, HB8, HS8⟩
end Go.Proofs.YtgbhfhnbmgkaoaaGreatDoor
