/-
  The laws' own 'same' of chapter 16: a store of the program's own answers what the document's does. The conditions: rows as the laws play them; texts of at most 1000 bytes.
-/
import Derived.Test.YtgbhfhnbmgkaoaaGreatDoorPart16
import Derived.Test.YtgbhfhnbmgkaoaaGreatDoorPart17
import Derived.Test.YtgbhfhnbmgkaoaaGreatDoorPart10
import Derived.Deep.RegionHeld3
namespace Go.Proofs.YtgbhfhnbmgkaoaaGreatDoor
open Go.RowKit TextNat RegMath

/-- What stays while 'same' looks. -/
def Alike (D : Sto) (w0 ws : World) (s x : Nat) (xs : List RowV) (pp : Option Addr) (w : World) : Prop := Pair16 D w0 w s x xs ∧ RowsIn w pp xs ∧ Below ws.heap.size ws w
abbrev AlikeS (D : Sto) (w0 ws : World) (s x : Nat) (xs : List RowV) (pp : Option Addr) (c : Nat) (w : World) : Prop := Alike D w0 ws s x xs pp w ∧ w.cell? ⟨x, 0, none⟩ = some (.slice pp xs.length c)
section
variable {D : Sto} {w0 ws w w' : World} {s x c : Nat} {xs : List RowV} {pp : Option Addr}
theorem AlikeS.below (h : AlikeS D w0 ws s x xs pp c w) (hb : Below w.heap.size w w') : AlikeS D w0 ws s x xs pp c w' :=
  ⟨⟨h.1.1.below hb, h.1.2.1.grown hb, h.1.2.2.trans (hb.mono h.1.2.2.size)⟩, (hb.cell (p := ⟨x, 0, none⟩) (World.block_lt_of_cell? w _ h.2)).trans h.2⟩
theorem AlikeS.drewN (h : AlikeS D w0 ws s x xs pp c w) (n : Nat) : AlikeS D w0 ws s x xs pp c (w.drewN n) := h.below ⟨rfl, rfl, rfl, Nat.le_refl _, fun _ _ => rfl⟩
theorem AlikeS.drew (h : AlikeS D w0 ws s x xs pp c w) : AlikeS D w0 ws s x xs pp c w.drew := h.below ⟨rfl, rfl, rfl, Nat.le_refl _, fun _ _ => rfl⟩
theorem al_head_s (hP : Store16 D) (hs : Short xs) (a : ByteArray) (ha : a.size ≤ 1000) (h : AlikeS D w0 ws s x xs pp c w) :
    Calls Tryz.prog 28 #[ptr16 s, .string a] w fun e w' => e = .returned (headV xs a).val ∧ AlikeS D w0 ws s x xs pp c w' := by
  obtain ⟨⟨S, h2, _⟩, _⟩ := h.1.1.own
  exact (hP.head s S xs a w h2 hs ha).mono fun _ _ ⟨h3, h4⟩ => ⟨h3, h.below h4⟩
theorem al_head_x (a : ByteArray) (h : AlikeS D w0 ws s x xs pp c w) :
    Calls Tryz.prog 29 #[ptr16 x, .string a] w fun e w' => e = .returned (headV xs a).val ∧ AlikeS D w0 ws s x xs pp c w' :=
  (refHead16 x xs a w h.1.1.ref).mono fun _ _ ⟨h3, h4⟩ => ⟨h3, h.below h4⟩
theorem al_keys_s (hP : Store16 D) (hs : Short xs) (a : ByteArray) (ha : a.size ≤ 1000) (h : AlikeS D w0 ws s x xs pp c w) :
    Calls Tryz.prog 31 #[ptr16 s, .string a] w fun e w' => (∃ p d, e = .returned (.slice p (keysV xs a).length d) ∧ TextsAt w' p (keysV xs a)) ∧ AlikeS D w0 ws s x xs pp c w' := by
  obtain ⟨⟨S, h2, _⟩, _⟩ := h.1.1.own
  exact (hP.keys s S xs a w h2 hs ha).mono fun _ _ ⟨⟨p, d, h3, _, _, h5⟩, h4⟩ => ⟨⟨p, d, h3, h5⟩, h.below h4⟩
theorem al_keys_x (hs : Short xs) (a : ByteArray) (h : AlikeS D w0 ws s x xs pp c w) :
    Calls Tryz.prog 32 #[ptr16 x, .string a] w fun e w' => (∃ p d, e = .returned (.slice p (keysV xs a).length d) ∧ TextsAt w' p (keysV xs a)) ∧ AlikeS D w0 ws s x xs pp c w' ∧ ∀ q ts, TextsAt w q ts → TextsAt w' q ts := by
  refine (refKeys16 x xs a w h.1.1.ref (by have := hs.few; omega)).mono ?_
  rintro e w' ⟨⟨v, rfl, hv⟩, h4⟩
  obtain ⟨p, d, rfl, _, _⟩ := hv.shape
  exact ⟨⟨p, d, rfl, hv.texts⟩, h.below h4, fun q ts ht => ht.grown h4⟩
theorem al_lives_s (hP : Store16 D) (hs : Short xs) (h : AlikeS D w0 ws s x xs pp c w) :
    Calls Tryz.prog 33 #[ptr16 s] w fun e w' => (∃ p d, e = .returned (.slice p (livesV xs).length d) ∧ TextsAt w' p (livesV xs)) ∧ AlikeS D w0 ws s x xs pp c w' := by
  obtain ⟨⟨S, h2, _⟩, _⟩ := h.1.1.own
  exact (hP.lives s S xs w h2 hs).mono fun _ _ ⟨⟨p, d, h3, _, _, h5⟩, h4⟩ => ⟨⟨p, d, h3, h5⟩, h.below h4⟩
theorem al_lives_x (hs : Short xs) (h : AlikeS D w0 ws s x xs pp c w) :
    Calls Tryz.prog 34 #[ptr16 x] w fun e w' => (∃ p d, e = .returned (.slice p (livesV xs).length d) ∧ TextsAt w' p (livesV xs)) ∧ AlikeS D w0 ws s x xs pp c w' ∧ ∀ q ts, TextsAt w q ts → TextsAt w' q ts := by
  refine (refLives16 x xs w h.1.1.ref (by have := hs.few; omega)).mono ?_
  rintro e w' ⟨⟨v, rfl, hv⟩, h4⟩
  obtain ⟨p, d, rfl, _, _⟩ := hv.shape
  exact ⟨⟨p, d, rfl, hv.texts⟩, h.below h4, fun q ts ht => ht.grown h4⟩
theorem al_same01 (p q : Option Addr) (d1 d2 : Nat) (ts : List ByteArray) (hl : ts.length ≤ 9223372036854775807) (h1 : TextsAt w p ts) (h2 : TextsAt w q ts) (h : AlikeS D w0 ws s x xs pp c w) :
    Calls Tryz.prog 30 #[.slice p ts.length d1, .slice q ts.length d2] w fun e w' => e = .returned (.bool true) ∧ AlikeS D w0 ws s x xs pp c w' := by
  refine (refSame01 p q d1 d2 ts ts w h1 h2 hl).mono ?_
  rintro e w' ⟨rfl, n, rfl⟩
  exact ⟨by rw [decide_eq_true rfl], h.drewN n⟩
theorem al_rows_s (hP : Store16 D) (hs : Short xs) (h : AlikeS D w0 ws s x xs pp c w) :
    Calls Tryz.prog 37 #[ptr16 s] w fun e w' => (∃ p d, e = .returned (.slice p xs.length d) ∧ RowsIn w' p xs) ∧ AlikeS D w0 ws s x xs pp c w' := by
  obtain ⟨⟨S, h2, _⟩, _⟩ := h.1.1.own
  exact (hP.rows s S xs w h2 hs).mono fun _ _ ⟨⟨p, d, h3, _, _, h5⟩, h4⟩ => ⟨⟨p, d, h3, h5⟩, h.below h4⟩
theorem al_shows_s (hP : Store16 D) (hs : Short xs) (h : AlikeS D w0 ws s x xs pp c w) :
    Calls Tryz.prog 38 #[ptr16 s] w fun e w' => (∃ p d, e = .returned (.slice p (showsV xs).length d) ∧ RowsIn w' p (showsV xs)) ∧ AlikeS D w0 ws s x xs pp c w' := by
  obtain ⟨⟨S, h2, _⟩, _⟩ := h.1.1.own
  exact (hP.shows s S xs w h2 hs).mono fun _ _ ⟨⟨p, d, h3, _, _, h5⟩, h4⟩ => ⟨⟨p, d, h3, h5⟩, h.below h4⟩
theorem al_shows_x (hs : Short xs) (h : AlikeS D w0 ws s x xs pp c w) :
    Calls Tryz.prog 39 #[ptr16 x] w fun e w' => (∃ p d, e = .returned (.slice p (showsV xs).length d) ∧ RowsIn w' p (showsV xs)) ∧ AlikeS D w0 ws s x xs pp c w' ∧ ∀ q ys, RowsIn w q ys → RowsIn w' q ys := by
  refine (refShows16 x xs w h.1.1.ref (by have := hs.few; omega)).mono ?_
  rintro e w' ⟨⟨v, rfl, hv⟩, h4⟩
  obtain ⟨p, d, rfl, _, _⟩ := hv.shape
  exact ⟨⟨p, d, rfl, hv.rows⟩, h.below h4, fun q ts ht => ht.grown h4⟩
theorem al_plain (p : Option Addr) (d : Nat) (ys : List RowV) (hl : ys.length ≤ 50000) (hr : RowsIn w p ys) (h : AlikeS D w0 ws s x xs pp c w) :
    Calls Tryz.prog 36 #[.slice p ys.length d] w fun e w' => (∃ p d, e = .returned (.slice p ys.length d) ∧ RowsIn w' p ys) ∧ AlikeS D w0 ws s x xs pp c w' := by
  refine (plain16 p d ys w hr hl).mono ?_
  rintro e w' ⟨⟨v, rfl, hv⟩, h4⟩
  obtain ⟨p, d, rfl, _, _⟩ := hv.shape
  exact ⟨⟨p, d, rfl, hv.rows⟩, h.below h4⟩
theorem al_same16 (p q : Option Addr) (d1 d2 : Nat) (ys : List RowV) (hl : ys.length ≤ 9223372036854775807) (h1 : RowsIn w p ys) (h2 : RowsIn w q ys) (h : AlikeS D w0 ws s x xs pp c w) :
    Calls Tryz.prog 35 #[.slice p ys.length d1, .slice q ys.length d2] w fun e w' => e = .returned (.bool true) ∧ AlikeS D w0 ws s x xs pp c w' := by
  refine (refSame16 p q d1 d2 ys ys w h1 h2 hl).mono ?_
  rintro e w' ⟨rfl, n, rfl⟩
  exact ⟨by rw [decide_eq_true rfl], h.drewN n⟩
end
theorem got_code {xs : List RowV} {s k : ByteArray} {c : Nat} (h : gotV xs s k = .inr c) : c = 1 ∨ c = 14 ∨ c = 7 := by
  unfold gotV at h
  split at h
  · exact .inl (Sum.inr.inj h).symm
  · split at h
    · exact .inr (.inl (Sum.inr.inj h).symm)
    · split at h
      · exact .inr (.inr (Sum.inr.inj h).symm)
      · split at h
        · cases h
        · exact .inr (.inr (Sum.inr.inj h).symm)
set_option maxRecDepth 100000 in
set_option maxHeartbeats 16000000 in
theorem same16b (D : Sto) (hP : Store16 D) (w0 w : World) (s x : Nat) (xs : List RowV) (a k : ByteArray) (h : Pair16 D w0 w s x xs) (hs : Short xs) (ha : a.size ≤ 1000) (hk : k.size ≤ 1000) :
    Calls Tryz.prog 11 #[ptr16 s, ptr16 x, .string a, .string k] w fun e w' => e = .returned (.bool true) ∧ Pair16 D w0 w' s x xs ∧ Below w.heap.size w w' := by
  obtain ⟨wS, hwS⟩ : ∃ wS, wS = w := ⟨_, rfl⟩
  obtain ⟨⟨S, pp, c, h1, h2, h3, h4, h5, h6, h7, h8, h9⟩, hB⟩ := id h
  have H0 : Hid (AlikeS D w0 wS s x xs pp c w) := Lib.hid ⟨⟨h, h7, by rw [hwS]; exact Below.refl _ _⟩, h4.cell (i := 0) rfl⟩
  have hGs := hP.get s S xs a k w h1 hs ha hk
  have hGx := fun w1 (h : RefSto w1 x xs) => refGet16 x xs a k w1 h
  obtain ⟨⟨ht, hr, hv, hgn, hl⟩, hH⟩ : ∃ R : RegV, headV xs a = R := ⟨_, rfl⟩
  have HHs := Lib.hid (fun (w : World) (h : AlikeS D w0 wS s x xs pp c w) => show Calls Tryz.prog 28 #[ptr16 s, .string a] w fun e w' => e = .returned (.agg #[.int .i64 ht, .int .i64 hr, .string hv, .bool hgn, .int .i64 hl]) ∧ AlikeS D w0 wS s x xs pp c w' by
    have h1 := al_head_s hP hs a ha h
    rw [hH] at h1
    exact h1)
  have HHx := Lib.hid (fun (w : World) (h : AlikeS D w0 wS s x xs pp c w) => show Calls Tryz.prog 29 #[ptr16 x, .string a] w fun e w' => e = .returned (.agg #[.int .i64 ht, .int .i64 hr, .string hv, .bool hgn, .int .i64 hl]) ∧ AlikeS D w0 wS s x xs pp c w' by
    have h1 := al_head_x a h
    rw [hH] at h1
    exact h1)
  have hKs := fun (w : World) (h : AlikeS D w0 wS s x xs pp c w) => al_keys_s hP hs a ha h
  have hKx := fun (w : World) (h : AlikeS D w0 wS s x xs pp c w) => al_keys_x hs a h
  have hLs := fun (w : World) (h : AlikeS D w0 wS s x xs pp c w) => al_lives_s hP hs h
  have hLx := fun (w : World) (h : AlikeS D w0 wS s x xs pp c w) => al_lives_x hs h
  have hRs := fun (w : World) (h : AlikeS D w0 wS s x xs pp c w) => al_rows_s hP hs h
  have hSs := fun (w : World) (h : AlikeS D w0 wS s x xs pp c w) => al_shows_s hP hs h
  have hSx := fun (w : World) (h : AlikeS D w0 wS s x xs pp c w) => al_shows_x hs h
  have hf := hs.few
  have hkl : (keysV xs a).length ≤ 1000 := by unfold keysV; rw [List.length_map]; have := List.length_filter_le (keyV a) xs; omega
  have hll : (livesV xs).length ≤ 1000 := by unfold livesV; rw [List.length_map]; have := List.length_filter_le liveV xs; omega
  have hsl : (showsV xs).length ≤ 1000 := by unfold showsV; have := List.length_filter_le (showV xs) xs; omega
  obtain ⟨KS, hKS⟩ : ∃ KS, KS = keysV xs a := ⟨_, rfl⟩
  obtain ⟨LS, hLS⟩ : ∃ LS, LS = livesV xs := ⟨_, rfl⟩
  obtain ⟨SH, hSH⟩ : ∃ SH, SH = showsV xs := ⟨_, rfl⟩
  rw [← hKS] at hKs hKx hkl
  rw [← hLS] at hLs hLx hll
  rw [← hSH] at hSs hSx hsl
  have HS1 := Lib.hid (fun (ts : List ByteArray) (p q : Option Addr) (d1 d2 : Nat) (w : World) (hts : ts = LS ∨ ts = KS) (h1 : TextsAt w p ts) (h2 : TextsAt w q ts) (h : AlikeS D w0 wS s x xs pp c w) => al_same01 p q d1 d2 ts (by rcases hts with e | e <;> rw [e] <;> omega) h1 h2 h)
  have HPl := Lib.hid (fun (ys : List RowV) (p : Option Addr) (d : Nat) (w : World) (hys : ys = SH ∨ ys = xs) (h1 : RowsIn w p ys) (h : AlikeS D w0 wS s x xs pp c w) => al_plain p d ys (by rcases hys with e | e <;> rw [e] <;> omega) h1 h)
  have HSr := Lib.hid (fun (ys : List RowV) (p q : Option Addr) (d1 d2 : Nat) (w : World) (hys : ys = SH ∨ ys = xs) (h1 : RowsIn w p ys) (h2 : RowsIn w q ys) (h : AlikeS D w0 wS s x xs pp c w) => al_same16 p q d1 d2 ys (by rcases hys with e | e <;> rw [e] <;> omega) h1 h2 h)
  have HwS := Lib.hid hwS
  have HKs := Lib.hid hKs; have HKx := Lib.hid hKx; have HLs := Lib.hid hLs; have HLx := Lib.hid hLx; have HRs := Lib.hid hRs; have HSs := Lib.hid hSs; have HSx := Lib.hid hSx
  clear hKs hKx hLs hLx hRs hSs hSx hKS hLS hSH hkl hll hsl hf hH h h1 h2 h3 h4 h5 h6 h7 h8 h9 hB hs ha hk hP hwS
  cases hg : gotV xs a k with
  | inl v =>
    rw [hg] at hGs hGx
    have HGs := Lib.hid hGs
    have HGx := Lib.hid hGx
    clear hGs hGx hg
    go_enter Tryz.func11, Tryz.ntmps11
    go_wp2_with fail
    refine HGs.out.mono ?_
    rintro e w1 ⟨he, hb⟩
    obtain rfl : e = .returned (.tuple #[.string v, .nilIface]) := he
    have H1 := Lib.hid (H0.out.below hb)
    clear hb
    go_wp2_with fail
    refine (HGx.out w1 H1.out.1.1.ref).mono ?_
    rintro e w2 ⟨he, hb⟩
    obtain rfl : e = .returned (.tuple #[.string v, .int .i64 0]) := he
    have H2 := Lib.hid (H1.out.below hb)
    clear hb
    go_wp2_with fail
    have hS2 := H2.out
    have hS2d := H2.out.drew
    go_region_held3 (fun w' => Alike D w0 wS s x xs pp w' ∧ w'.cell? ⟨x, 0, none⟩ = some (.slice pp xs.length c)) (first | exact hpn | exact hS2 | exact hS2d) (first
      | (go_at_call 28
         refine (HHs.out _ ?_).mono ?_
         assumption
         rintro e wn ⟨rfl, hpn⟩)
      | (go_at_call 29
         refine (HHx.out _ ?_).mono ?_
         assumption
         rintro e wn ⟨rfl, hpn⟩)
      | (go_at_call 31
         refine (HKs.out _ ?_).mono ?_
         assumption
         rintro e wn ⟨⟨pk1, ck1, rfl, tk1⟩, hpn⟩)
      | (go_at_call 32
         refine (HKx.out _ ?_).mono ?_
         assumption
         rintro e wn ⟨⟨pk2, ck2, rfl, tk2⟩, hpn, gk⟩)
      | (go_at_call 33
         refine (HLs.out _ ?_).mono ?_
         assumption
         rintro e wn ⟨⟨pl1, cl1, rfl, tl1⟩, hpn⟩)
      | (go_at_call 34
         refine (HLx.out _ ?_).mono ?_
         assumption
         rintro e wn ⟨⟨pl2, cl2, rfl, tl2⟩, hpn, gl⟩)
      | (go_at_call 37
         refine (HRs.out _ ?_).mono ?_
         assumption
         rintro e wn ⟨⟨pr1, cr1, rfl, tr1⟩, hpn⟩)
      | (go_at_call 38
         refine (HSs.out _ ?_).mono ?_
         assumption
         rintro e wn ⟨⟨pq1, cq1, rfl, tq1⟩, hpn⟩)
      | (go_at_call 39
         refine (HSx.out _ ?_).mono ?_
         assumption
         rintro e wn ⟨⟨pq2, cq2, rfl, tq2⟩, hpn, gq⟩)
      | (go_at_call 30
         refine (HS1.out _ _ _ _ _ _ (by first | exact .inl rfl | exact .inr rfl) (by first | exact gl _ _ tl1 | exact gk _ _ tk1) (by first | exact tl2 | exact tk2) ?_).mono ?_
         assumption
         rintro e wn ⟨rfl, hpn⟩)
      | (go_at_call 36
         refine (HPl.out _ _ _ _ (by first | exact .inl rfl | exact .inr rfl) (by first | exact tq1 | exact tr1) ?_).mono ?_
         assumption
         rintro e wn ⟨⟨pr3, cr3, rfl, tr3⟩, hpn⟩)
      | (go_at_call 35
         refine (HSr.out _ _ _ _ _ _ (by first | exact .inl rfl | exact .inr rfl) (by first | exact gq _ _ tr3 | exact tr3) (by first | exact tq2 | exact hpn.1.2.1) ?_).mono ?_
         assumption
         rintro e wn ⟨rfl, hpn⟩))
    have HN := Lib.hid hpn
    clear hpn
    go_wp2
    go_ret
    exact ⟨rfl, HN.out.1.1, by have h1 := HN.out.1.2.2; rw [HwS.out] at h1; exact h1⟩
  | inr n =>
    have hn := got_code hg
    rw [hg] at hGs hGx
    have HGs := Lib.hid hGs
    have HGx := Lib.hid hGx
    have n1 : ((n : Int) == 0) = false := by rw [beq_eq_false_iff_ne]; omega
    have n2 : ((n : Int) != 0) = true := by rw [bne_iff_ne]; omega
    clear hGs hGx hg hn
    go_enter Tryz.func11, Tryz.ntmps11
    go_wp2_with fail
    refine HGs.out.mono ?_
    rintro e w1 ⟨⟨r, rfl, hx⟩, hb⟩
    have H1 := Lib.hid (H0.out.below hb)
    have HX := Lib.hid hx
    clear hb hx
    go_wp2_with fail
    refine (HGx.out w1 H1.out.1.1.ref).mono ?_
    rintro e w2 ⟨he, hb⟩
    obtain rfl : e = .returned (.tuple #[.string ⟨#[]⟩, .int .i64 (n : Int)]) := he
    have H2 := Lib.hid (H1.out.below hb)
    have HI := Lib.hid (is_err (HX.out.below hb) (n : Int))
    have hnn : ((n : Int) == (n : Int)) = true := by simp
    rw [hnn] at HI
    clear hb hnn
    go_wp2_with (go_at_call 10; refine HI.out.mono ?_; rintro e w3 ⟨rfl, hw⟩; rw [hw]; clear hw)
    have hS2 := H2.out
    have hS2d := H2.out.drew
    go_region_held3 (fun w' => Alike D w0 wS s x xs pp w' ∧ w'.cell? ⟨x, 0, none⟩ = some (.slice pp xs.length c)) (first | exact hpn | exact hS2 | exact hS2d) (first
      | (go_at_call 28
         refine (HHs.out _ ?_).mono ?_
         assumption
         rintro e wn ⟨rfl, hpn⟩)
      | (go_at_call 29
         refine (HHx.out _ ?_).mono ?_
         assumption
         rintro e wn ⟨rfl, hpn⟩)
      | (go_at_call 31
         refine (HKs.out _ ?_).mono ?_
         assumption
         rintro e wn ⟨⟨pk1, ck1, rfl, tk1⟩, hpn⟩)
      | (go_at_call 32
         refine (HKx.out _ ?_).mono ?_
         assumption
         rintro e wn ⟨⟨pk2, ck2, rfl, tk2⟩, hpn, gk⟩)
      | (go_at_call 33
         refine (HLs.out _ ?_).mono ?_
         assumption
         rintro e wn ⟨⟨pl1, cl1, rfl, tl1⟩, hpn⟩)
      | (go_at_call 34
         refine (HLx.out _ ?_).mono ?_
         assumption
         rintro e wn ⟨⟨pl2, cl2, rfl, tl2⟩, hpn, gl⟩)
      | (go_at_call 37
         refine (HRs.out _ ?_).mono ?_
         assumption
         rintro e wn ⟨⟨pr1, cr1, rfl, tr1⟩, hpn⟩)
      | (go_at_call 38
         refine (HSs.out _ ?_).mono ?_
         assumption
         rintro e wn ⟨⟨pq1, cq1, rfl, tq1⟩, hpn⟩)
      | (go_at_call 39
         refine (HSx.out _ ?_).mono ?_
         assumption
         rintro e wn ⟨⟨pq2, cq2, rfl, tq2⟩, hpn, gq⟩)
      | (go_at_call 30
         refine (HS1.out _ _ _ _ _ _ (by first | exact .inl rfl | exact .inr rfl) (by first | exact gl _ _ tl1 | exact gk _ _ tk1) (by first | exact tl2 | exact tk2) ?_).mono ?_
         assumption
         rintro e wn ⟨rfl, hpn⟩)
      | (go_at_call 36
         refine (HPl.out _ _ _ _ (by first | exact .inl rfl | exact .inr rfl) (by first | exact tq1 | exact tr1) ?_).mono ?_
         assumption
         rintro e wn ⟨⟨pr3, cr3, rfl, tr3⟩, hpn⟩)
      | (go_at_call 35
         refine (HSr.out _ _ _ _ _ _ (by first | exact .inl rfl | exact .inr rfl) (by first | exact gq _ _ tr3 | exact tr3) (by first | exact tq2 | exact hpn.1.2.1) ?_).mono ?_
         assumption
         rintro e wn ⟨rfl, hpn⟩))
    have HN := Lib.hid hpn
    clear hpn
    go_wp2
    go_ret
    exact ⟨rfl, HN.out.1.1, by have h1 := HN.out.1.2.2; rw [HwS.out] at h1; exact h1⟩
theorem same16 (D : Sto) (hP : Store16 D) (w0 w : World) (s x : Nat) (xs : List RowV) (a k : ByteArray) (h : Pair16 D w0 w s x xs) (hs : Short xs) (ha : a.size ≤ 1000) (hk : k.size ≤ 1000) :
    Calls Tryz.prog 11 #[ptr16 s, ptr16 x, .string a, .string k] w fun e w' => e = .returned (.bool true) ∧ Pair16 D w0 w' s x xs :=
  (same16b D hP w0 w s x xs a k h hs ha hk).mono fun _ _ h => ⟨h.1, h.2.1⟩
end Go.Proofs.YtgbhfhnbmgkaoaaGreatDoor
