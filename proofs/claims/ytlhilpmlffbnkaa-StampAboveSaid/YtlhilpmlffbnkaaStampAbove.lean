/-
  StampAbove's contract: it answers true of any region and stamps, out of the program's contracts. The conditions: the stamps' cells.
-/
import Derived.Test.YtlhilpmlffbnkaaStampOwn
namespace Go.Proofs.Ytlhilpmlffbnkaa
open Go.RowKit StampMath

theorem below_time {x : St} {a r : Int} (h : x.1 ≤ a) : less x (a + 1, r) = true := by
  rw [less_iff]
  exact .inl (by simp; omega)
theorem all_snoc {A : List St} {x : St} {a a' : Int} (h : ∀ y ∈ A, y.1 ≤ a) (ha : a ≤ a') (hx : x.1 ≤ a') : ∀ y ∈ A ++ [x], y.1 ≤ a' := fun y hy => by
  rcases List.mem_append.1 hy with hy | hy
  · have := h y hy
    omega
  · obtain rfl : y = x := by simpa using hy
    exact hx
theorem right_zero {r : Int} : rightB r 0 = true ∨ rightB r 0 = false := by cases rightB r 0 <;> simp
set_option maxRecDepth 100000 in
set_option maxHeartbeats 4000000 in
theorem above_true (r : Int) (p : Option Addr) (c : Nat) (l : List St) (w : World) (h : Stamps w p l) (hz : ∀ a ∈ l, I64 a.1 ∧ I64 a.2) (hr : I64 r) (hL : LessOk) (hN : NewOk) (hX : NextOk) (hS : SeeOk) (hT : TimeOk) :
    Calls Try.prog 5 #[.int .i64 r, .slice p l.length c] w fun e w' => e = .returned (.bool true) ∧ Below w.heap.size w w' := by
  obtain ⟨ii, hii, hi0, hi1, hi2⟩ := info_parts info_stamp
  have HA := Lib.hid (awake_true hN hX hS)
  have HNw := Lib.hid (fun w1 => hN r 0 w1 hr (by decide))
  have HL := Lib.hid hL
  have HX := Lib.hid hX
  have HS := Lib.hid hS
  have HTm := Lib.hid hT
  obtain ⟨N, hNl⟩ : ∃ N, N = l.length := ⟨_, rfl⟩
  have HI := Lib.hid h
  have HN := Lib.hid hNl
  have HZ := Lib.hid hz
  rw [← hNl]
  clear h hNl hN hX hS hT hr hL hz
  go_enter Try.func5, Try.ntmps5
  go_wp2_with fail
  refine (HA.out w).mono ?_
  rintro e w1 ⟨rfl, hb1⟩
  have HB1 := Lib.hid hb1
  clear hb1
  go_wp2_with fail
  refine (HNw.out w1).mono ?_
  rintro e w2 ⟨hnew, hb2⟩
  have HB2 := Lib.hid (HB1.out.trans (hb2.mono HB1.out.size))
  clear hb2
  unfold NewIs at hnew
  rcases right_zero (r := r) with hrt | hrt
  · rw [if_pos hrt] at hnew
    obtain ⟨b, rfl, hbl, hck⟩ := hnew
    have HCk := Lib.hid hck
    have hbl' : w.heap.size ≤ b := Nat.le_trans HB1.out.size hbl
    clear hrt hck hbl
    go_wp2_with fail
    go_loopg [7, 8] N (fun gh s7 s8 wx => ∃ (i : Nat) (a : Int) (A : List St), i + gh = N ∧ i ≤ 100 ∧ s8 = .int .i64 (i : Int) ∧ 0 ≤ a ∧ a ≤ 1099511627776 ∧ Clk wx b r a ∧ Below w.heap.size w wx ∧ OwnS wx (b + 1) s7 A ∧ A.length ≤ 2 * i ∧ Hid (∀ x ∈ A, x.1 ≤ a))
    case atStart => exact ⟨0, 0, [], by omega, by omega, by go_num, by omega, by omega, HCk.out, HB2.out, OwnS.nil _ _, by simp, Lib.hid (fun x hx => by simp at hx)⟩
    case round =>
      obtain ⟨i, a, A, hi, hi3, rfl, ha0, ha1, hck, hb, hown, hlen, HAll⟩ := hrel
      rename World => W1
      have HW1 := Lib.hid hb
      have HC1 := Lib.hid hck
      have HO1 := Lib.hid hown
      obtain ⟨p7, c7, rfl⟩ := hown.shape
      clear hb hck hown HCk HB2
      by_cases hiN : i < N
      · have q1 : decide ((i : Int) < (N : Int)) = true := decide_eq_true (by omega)
        have q1' : decide (i < N) = true := decide_eq_true hiN
        by_cases hi100 : i < 100
        · have q2 : decide ((i : Int) < (100 : Int)) = true := decide_eq_true (by omega)
          have q2' : decide (i < 100) = true := decide_eq_true hi100
          obtain ⟨⟨z1, z2⟩, hz⟩ : ∃ z, l[i]? = some z := ⟨_, List.getElem?_eq_getElem (by rw [← HN.out]; exact hiN)⟩
          obtain ⟨pb, off, rfl, hc1, hc2⟩ := (HI.out.grown HW1.out) i _ hz
          have hzr := (HZ.out _ (List.mem_of_getElem? hz)).1
          have HZat := Lib.hid hz
          clear hz
          go_wp2_with fail
          refine (HS.out b r a z1 W1 HC1.out ha0 ha1 hzr).mono ?_
          rintro e w3 ⟨h3, hb3⟩
          have hB3 := below_but HW1.out hbl' HC1.out.lt hb3
          have HB3 := Lib.hid hB3
          have HO3 := Lib.hid (HO1.out.but hb3 (by omega))
          obtain ⟨_, pb', off', hp', hd1, hd2⟩ : ∃ (_ : Unit) (b' off' : Nat), (some ⟨pb, off, none⟩ : Option Addr) = some ⟨b', off', none⟩ ∧ w3.cell? ⟨b', off' + i * 2, none⟩ = some (.int .i64 z1) ∧ w3.cell? ⟨b', off' + i * 2 + 1, none⟩ = some (.int .i64 z2) := by
            obtain ⟨b', off', h1, h2, h3⟩ := (HI.out.grown hB3) i _ HZat.out
            exact ⟨(), b', off', h1, h2, h3⟩
          obtain ⟨rfl, rfl⟩ : pb' = pb ∧ off' = off := by simpa using hp'.symm
          clear hb3 hB3 hp'
          unfold SeeIs at h3
          by_cases hzM : 0 ≤ z1 ∧ z1 ≤ 1099511627776
          · rw [if_pos hzM] at h3
            obtain ⟨rfl, hc3⟩ := h3
            obtain ⟨ax, hax⟩ : ∃ ax, ax = max a z1 := ⟨_, rfl⟩
            rw [← hax] at hc3
            have HCx := Lib.hid hc3
            have hx0 : 0 ≤ ax := by omega
            have hx1 : ax ≤ 1099511627776 := by omega
            have hxa : a ≤ ax := by omega
            have hxz : z1 ≤ ax := by omega
            clear hc3 hax
            by_cases hz17 : z2 < 17
            · have q4 : decide (z2 < 17) = true := decide_eq_true hz17
              have hA4 : Below w3.heap.size w3 (w3.alloc (.cells #[.int .i64 z1, .int .i64 z2] 25)) := (Below.refl _ w3).alloc (Nat.le_refl _) _
              have HB4 := Lib.hid (HB3.out.trans (hA4.mono HB3.out.size))
              have HC4 := Lib.hid (HCx.out.below hA4)
              have HN4 := Lib.hid (show A.length = A.length from rfl)
              have HO4 := Lib.hid (HO3.out.below hA4)
              have HL4 := Lib.hid (show b + 1 ≤ (w3.alloc (.cells #[.int .i64 z1, .int .i64 z2] 25)).heap.size by have := HC4.out.lt; omega)
              have hHO4 := HO4.out
              unfold OwnS at hHO4
              replace HO4 := Lib.hid hHO4
              clear hA4 hHO4 HCx
              go_wp2_with (at_builtin; refine wpList_append_own _ rfl _ _ 22 rfl (b + 1) 25 ii _ 2 16 Try.underlying22 hii hi0 hi1 hi2 rfl (by decide) _ _ _ rfl HO4.out ⟨_, 0, none⟩ 1 1 [.int .i64 z1, .int .i64 z2] rfl rfl (two_put _ _ _ _ _ (by simp)) (fun u hu => by simp at hu; rcases hu with rfl | rfl <;> rfl) (by unfold maxLen; omega) (by omega) HL4.out ?_; intro v4 w4 hown4 hgrow4 hnil4; clear hnil4; have hO4 := OwnS.more (a := (z1, z2)) rfl hown4; obtain ⟨px, cx, rfl⟩ := hO4.shape; have HOx' := Lib.hid hO4; clear hO4)
              have hrow4 : ∀ q, (Value.slice p7 A.length c7).ownBlock = some q → b + 1 ≤ q := fun q hq => (World.ownsRow.lt HO4.out q hq).1
              have HCx := Lib.hid (HC4.out.grown hgrow4 (fun q hq => hrow4 q hq))
              have HBx := Lib.hid (HB4.out.grown hgrow4 HB4.out.size (fun q hq => by have := hrow4 q hq; omega))
              have HAx := Lib.hid (all_snoc (x := (z1, z2)) HAll.out hxa hxz)
              obtain ⟨Ax, hAx⟩ : ∃ Ax, Ax = A ++ [(z1, z2)] := ⟨_, rfl⟩
              obtain ⟨nx, hnx⟩ : ∃ nx, nx = A.length + 1 := ⟨_, rfl⟩
              have hlx : nx ≤ 2 * i + 1 := by omega
              have hnA : Ax.length = nx := by rw [hAx, hnx]; simp
              rw [← hAx] at HAx HOx'
              have HOx := HOx'
              rw [hnA] at HOx
              rw [← hnx]
              have HNx := Lib.hid hnA.symm
              clear hgrow4 hown4 hAx hnx HOx' hrow4 hnA
              refine (HX.out b r ax w4 HCx.out hx0 hx1).mono ?_
              rintro e w5 ⟨h5, hb5⟩
              have hB5 := below_but HBx.out hbl' HCx.out.lt hb5
              have hO5 := HOx.out.but hb5 (by omega)
              unfold NextIs at h5
              by_cases haM : ax < 1099511627776
              · rw [if_pos haM] at h5
                obtain ⟨rfl, hc5⟩ := h5
                obtain ⟨W5, hW5⟩ : ∃ W5, W5 = w5.alloc (.cells #[.int .i64 (ax + 1), .int .i64 r] 25) := ⟨_, rfl⟩
                have hA5 : Below w5.heap.size w5 W5 := by rw [hW5]; exact (Below.refl _ w5).alloc (Nat.le_refl _) _
                have HE5 := Lib.hid hW5
                have HW5 := Lib.hid (hB5.trans (hA5.mono hB5.size))
                have HC5 := Lib.hid (hc5.below hA5)
                have HO5 := Lib.hid (hO5.below hA5)
                have HS5 := Lib.hid (show Lies W5 w5.heap.size [.int .i64 (ax + 1), .int .i64 r] 25 by rw [hW5]; exact Lies.new w5 _ _)
                obtain ⟨B9, hB9⟩ : ∃ B9, B9 = w5.heap.size := ⟨_, rfl⟩
                have HB9 := Lib.hid hB9
                rw [← hB9] at HS5
                clear hb5 hB5 hO5 hc5 hW5 hA5 hB9
                go_wp2_with fail
                rw [← HE5.out, ← HB9.out]
                go_loopg [69] nx (fun gh s69 wx => ∃ k : Nat, k + gh = nx ∧ s69 = .int .i64 (k : Int) ∧ Below W5.heap.size W5 wx)
                case atStart => exact ⟨0, by omega, by go_num, Below.refl _ _⟩
                case round =>
                  obtain ⟨k, hk, rfl, hb6⟩ := hrel
                  rename World => W6
                  have HW6 := Lib.hid hb6
                  have HS6 := Lib.hid (HS5.out.below hb6)
                  have hs0 := HS6.out.cell (i := 0) rfl
                  have hs1 := HS6.out.cell (i := 1) rfl
                  clear hb6
                  by_cases hkN : k < nx
                  · have q7 : decide ((k : Int) < (nx : Int)) = true := decide_eq_true (by omega)
                    have q7' : decide (k < nx) = true := decide_eq_true hkN
                    obtain ⟨⟨x1, x2⟩, hx⟩ : ∃ x, Ax[k]? = some x := ⟨_, List.getElem?_eq_getElem (by rw [← HNx.out]; exact hkN)⟩
                    obtain ⟨xb, xo, hpx, hxc1, hxc2⟩ := (HO5.out.stamps.grown HW6.out) k _ hx
                    have hless : less (x1, x2) (ax + 1, r) = true := below_time (HAx.out _ (List.mem_of_getElem? hx))
                    have HLs := HL.out x1 x2 (ax + 1) r
                    rw [hless] at HLs
                    replace HLs := Lib.hid HLs
                    subst hpx
                    have hA7 : Below W6.heap.size W6 (W6.alloc (.cells #[.int .i64 x1, .int .i64 x2] 25)) := (Below.refl _ W6).alloc (Nat.le_refl _) _
                    have HB7 := Lib.hid (HW6.out.trans (hA7.mono HW6.out.size))
                    have hs7 := HS6.out.below hA7
                    have ht0 := hs7.cell (i := 0) rfl
                    have ht1 := hs7.cell (i := 1) rfl
                    clear hx hless hA7 hs7
                    go_wp2_with (go_at_call 8; refine (HLs.out _).mono ?_; rintro e w8 ⟨rfl, hb8⟩; have HB8 := Lib.hid (HB7.out.trans (hb8.mono HB7.out.size)); clear hb8)
                    go_roundg (nx - (k + 1))
                    case measure => omega
                    case rel => exact ⟨k + 1, by omega, by go_num, HB8.out⟩
                  · have q7 : decide ((k : Int) < (nx : Int)) = false := decide_eq_false (by omega)
                    have q7' : decide (k < nx) = false := decide_eq_false hkN
                    have hA7 : Below W6.heap.size W6 (W6.alloc (.cells #[.int .i64 (ax + 1), .int .i64 r] 25)) := (Below.refl _ W6).alloc (Nat.le_refl _) _
                    have hB6 := HW5.out.trans (HW6.out.mono HW5.out.size)
                    have HB7 := Lib.hid (hB6.trans (hA7.mono hB6.size))
                    have hC6 := HC5.out.below HW6.out
                    have HC7 := Lib.hid (hC6.below hA7)
                    have hO7 := (HO5.out.below HW6.out).below hA7
                    unfold OwnS at hO7
                    rw [← HNx.out] at hO7
                    have HO7 := Lib.hid hO7
                    have HL7 := Lib.hid (show b + 1 ≤ (W6.alloc (.cells #[.int .i64 (ax + 1), .int .i64 r] 25)).heap.size by have := HC7.out.lt; omega)
                    clear hA7 hB6 hC6 hO7
                    go_wp2_with (at_builtin; refine wpList_append_own _ rfl _ _ 22 rfl (b + 1) 25 ii _ 2 16 Try.underlying22 hii hi0 hi1 hi2 rfl (by decide) _ _ _ rfl HO7.out ⟨_, 0, none⟩ 1 1 [.int .i64 (ax + 1), .int .i64 r] rfl rfl (two_put _ _ _ _ _ (by simp)) (fun u hu => by simp at hu; rcases hu with rfl | rfl <;> rfl) (by unfold maxLen; omega) (by omega) HL7.out ?_; intro v9 w9 hown9 hgrow9 hnil9; clear hnil9)
                    have hrow : ∀ q, (Value.slice px nx cx).ownBlock = some q → b + 1 ≤ q := fun q hq => (World.ownsRow.lt HO7.out q hq).1
                    have HO9 := Lib.hid (OwnS.more (a := (ax + 1, r)) HNx.out hown9)
                    have HC9 := Lib.hid (HC7.out.grown hgrow9 (fun q hq => hrow q hq))
                    have HB9' := Lib.hid (HB7.out.grown hgrow9 HB7.out.size (fun q hq => by have := hrow q hq; omega))
                    have hAl : (Ax ++ [((ax + 1, r) : St)]).length ≤ 2 * (i + 1) := by rw [List.length_append, ← HNx.out]; simp; omega
                    go_roundg (N - (i + 1))
                    case measure => omega
                    case rel => exact ⟨i + 1, ax + 1, Ax ++ [(ax + 1, r)], by omega, by omega, by go_num, by omega, by omega, HC9.out, HB9'.out, HO9.out, hAl, Lib.hid (all_snoc HAx.out (by omega) (Int.le_refl _))⟩
              · rw [if_neg haM] at h5
                obtain ⟨⟨x, rfl, hx⟩, hc5⟩ := h5
                obtain ⟨T, y, rfl⟩ := hx.iface
                have HB5 := Lib.hid (hB5.alloc hB5.size (.cells #[.int .i64 0, .int .i64 0] 25))
                have HC5 := Lib.hid (hc5.below ((Below.refl _ w5).alloc (Nat.le_refl _) (.cells #[.int .i64 0, .int .i64 0] 25)))
                have q8 : (ax == 1099511627776) = true := by rw [beq_iff_eq]; omega
                clear hx hb5 hB5 hO5 hc5
                go_wp2_with (go_at_call 17; refine (HTm.out b r ax _ HC5.out).mono ?_; rintro e w8 ⟨rfl, hb8⟩; have HB8 := Lib.hid (HB5.out.trans (hb8.mono HB5.out.size)); clear hb8)
                go_ret
                exact ⟨by rw [← q8]; rfl, HB8.out⟩
            · have q4 : decide (z2 < 17) = false := decide_eq_false hz17
              go_wp2_with fail
              obtain ⟨nx, hnx⟩ : ∃ nx, nx = A.length := ⟨_, rfl⟩
              have HAx := Lib.hid (show ∀ x ∈ A, x.1 ≤ ax from fun x hx => Int.le_trans (HAll.out x hx) hxa)
              have hlx : nx ≤ 2 * i + 1 := by omega
              have HNx := Lib.hid hnx
              have HOx := HO3
              have HBx := HB3
              rw [← hnx] at HOx ⊢
              clear hnx
              refine (HX.out b r ax w3 HCx.out hx0 hx1).mono ?_
              rintro e w5 ⟨h5, hb5⟩
              have hB5 := below_but HBx.out hbl' HCx.out.lt hb5
              have hO5 := HOx.out.but hb5 (by omega)
              unfold NextIs at h5
              by_cases haM : ax < 1099511627776
              · rw [if_pos haM] at h5
                obtain ⟨rfl, hc5⟩ := h5
                obtain ⟨W5, hW5⟩ : ∃ W5, W5 = w5.alloc (.cells #[.int .i64 (ax + 1), .int .i64 r] 25) := ⟨_, rfl⟩
                have hA5 : Below w5.heap.size w5 W5 := by rw [hW5]; exact (Below.refl _ w5).alloc (Nat.le_refl _) _
                have HE5 := Lib.hid hW5
                have HW5 := Lib.hid (hB5.trans (hA5.mono hB5.size))
                have HC5 := Lib.hid (hc5.below hA5)
                have HO5 := Lib.hid (hO5.below hA5)
                have HS5 := Lib.hid (show Lies W5 w5.heap.size [.int .i64 (ax + 1), .int .i64 r] 25 by rw [hW5]; exact Lies.new w5 _ _)
                obtain ⟨B9, hB9⟩ : ∃ B9, B9 = w5.heap.size := ⟨_, rfl⟩
                have HB9 := Lib.hid hB9
                rw [← hB9] at HS5
                clear hb5 hB5 hO5 hc5 hW5 hA5 hB9
                go_wp2_with fail
                rw [← HE5.out, ← HB9.out]
                go_loopg [69] nx (fun gh s69 wx => ∃ k : Nat, k + gh = nx ∧ s69 = .int .i64 (k : Int) ∧ Below W5.heap.size W5 wx)
                case atStart => exact ⟨0, by omega, by go_num, Below.refl _ _⟩
                case round =>
                  obtain ⟨k, hk, rfl, hb6⟩ := hrel
                  rename World => W6
                  have HW6 := Lib.hid hb6
                  have HS6 := Lib.hid (HS5.out.below hb6)
                  have hs0 := HS6.out.cell (i := 0) rfl
                  have hs1 := HS6.out.cell (i := 1) rfl
                  clear hb6
                  by_cases hkN : k < nx
                  · have q7 : decide ((k : Int) < (nx : Int)) = true := decide_eq_true (by omega)
                    have q7' : decide (k < nx) = true := decide_eq_true hkN
                    obtain ⟨⟨x1, x2⟩, hx⟩ : ∃ x, A[k]? = some x := ⟨_, List.getElem?_eq_getElem (by rw [← HNx.out]; exact hkN)⟩
                    obtain ⟨xb, xo, hpx, hxc1, hxc2⟩ := (HO5.out.stamps.grown HW6.out) k _ hx
                    have hless : less (x1, x2) (ax + 1, r) = true := below_time (HAx.out _ (List.mem_of_getElem? hx))
                    have HLs := HL.out x1 x2 (ax + 1) r
                    rw [hless] at HLs
                    replace HLs := Lib.hid HLs
                    subst hpx
                    have hA7 : Below W6.heap.size W6 (W6.alloc (.cells #[.int .i64 x1, .int .i64 x2] 25)) := (Below.refl _ W6).alloc (Nat.le_refl _) _
                    have HB7 := Lib.hid (HW6.out.trans (hA7.mono HW6.out.size))
                    have hs7 := HS6.out.below hA7
                    have ht0 := hs7.cell (i := 0) rfl
                    have ht1 := hs7.cell (i := 1) rfl
                    clear hx hless hA7 hs7
                    go_wp2_with (go_at_call 8; refine (HLs.out _).mono ?_; rintro e w8 ⟨rfl, hb8⟩; have HB8 := Lib.hid (HB7.out.trans (hb8.mono HB7.out.size)); clear hb8)
                    go_roundg (nx - (k + 1))
                    case measure => omega
                    case rel => exact ⟨k + 1, by omega, by go_num, HB8.out⟩
                  · have q7 : decide ((k : Int) < (nx : Int)) = false := decide_eq_false (by omega)
                    have q7' : decide (k < nx) = false := decide_eq_false hkN
                    have hA7 : Below W6.heap.size W6 (W6.alloc (.cells #[.int .i64 (ax + 1), .int .i64 r] 25)) := (Below.refl _ W6).alloc (Nat.le_refl _) _
                    have hB6 := HW5.out.trans (HW6.out.mono HW5.out.size)
                    have HB7 := Lib.hid (hB6.trans (hA7.mono hB6.size))
                    have hC6 := HC5.out.below HW6.out
                    have HC7 := Lib.hid (hC6.below hA7)
                    have hO7 := (HO5.out.below HW6.out).below hA7
                    unfold OwnS at hO7
                    rw [← HNx.out] at hO7
                    have HO7 := Lib.hid hO7
                    have HL7 := Lib.hid (show b + 1 ≤ (W6.alloc (.cells #[.int .i64 (ax + 1), .int .i64 r] 25)).heap.size by have := HC7.out.lt; omega)
                    clear hA7 hB6 hC6 hO7
                    go_wp2_with (at_builtin; refine wpList_append_own _ rfl _ _ 22 rfl (b + 1) 25 ii _ 2 16 Try.underlying22 hii hi0 hi1 hi2 rfl (by decide) _ _ _ rfl HO7.out ⟨_, 0, none⟩ 1 1 [.int .i64 (ax + 1), .int .i64 r] rfl rfl (two_put _ _ _ _ _ (by simp)) (fun u hu => by simp at hu; rcases hu with rfl | rfl <;> rfl) (by unfold maxLen; omega) (by omega) HL7.out ?_; intro v9 w9 hown9 hgrow9 hnil9; clear hnil9)
                    have hrow : ∀ q, (Value.slice p7 nx c7).ownBlock = some q → b + 1 ≤ q := fun q hq => (World.ownsRow.lt HO7.out q hq).1
                    have HO9 := Lib.hid (OwnS.more (a := (ax + 1, r)) HNx.out hown9)
                    have HC9 := Lib.hid (HC7.out.grown hgrow9 (fun q hq => hrow q hq))
                    have HB9' := Lib.hid (HB7.out.grown hgrow9 HB7.out.size (fun q hq => by have := hrow q hq; omega))
                    have hAl : (A ++ [((ax + 1, r) : St)]).length ≤ 2 * (i + 1) := by rw [List.length_append, ← HNx.out]; simp; omega
                    go_roundg (N - (i + 1))
                    case measure => omega
                    case rel => exact ⟨i + 1, ax + 1, A ++ [(ax + 1, r)], by omega, by omega, by go_num, by omega, by omega, HC9.out, HB9'.out, HO9.out, hAl, Lib.hid (all_snoc HAx.out (by omega) (Int.le_refl _))⟩
              · rw [if_neg haM] at h5
                obtain ⟨⟨x, rfl, hx⟩, hc5⟩ := h5
                obtain ⟨T, y, rfl⟩ := hx.iface
                have HB5 := Lib.hid (hB5.alloc hB5.size (.cells #[.int .i64 0, .int .i64 0] 25))
                have HC5 := Lib.hid (hc5.below ((Below.refl _ w5).alloc (Nat.le_refl _) (.cells #[.int .i64 0, .int .i64 0] 25)))
                have q8 : (ax == 1099511627776) = true := by rw [beq_iff_eq]; omega
                clear hx hb5 hB5 hO5 hc5
                go_wp2_with (go_at_call 17; refine (HTm.out b r ax _ HC5.out).mono ?_; rintro e w8 ⟨rfl, hb8⟩; have HB8 := Lib.hid (HB5.out.trans (hb8.mono HB5.out.size)); clear hb8)
                go_ret
                exact ⟨by rw [← q8]; rfl, HB8.out⟩
          · rw [if_neg hzM] at h3
            obtain ⟨⟨x, rfl, hx⟩, hc3⟩ := h3
            obtain ⟨T, y, rfl⟩ := hx.iface
            have HCx := Lib.hid hc3
            have hx0 := ha0
            have hx1 := ha1
            clear hx hc3
            go_wp2_with fail
            obtain ⟨nx, hnx⟩ : ∃ nx, nx = A.length := ⟨_, rfl⟩
            have HAx := HAll
            have hlx : nx ≤ 2 * i + 1 := by omega
            have HNx := Lib.hid hnx
            have HOx := HO3
            have HBx := HB3
            rw [← hnx] at HOx ⊢
            clear hnx
            refine (HX.out b r a w3 HCx.out hx0 hx1).mono ?_
            rintro e w5 ⟨h5, hb5⟩
            have hB5 := below_but HBx.out hbl' HCx.out.lt hb5
            have hO5 := HOx.out.but hb5 (by omega)
            unfold NextIs at h5
            by_cases haM : a < 1099511627776
            · rw [if_pos haM] at h5
              obtain ⟨rfl, hc5⟩ := h5
              obtain ⟨W5, hW5⟩ : ∃ W5, W5 = w5.alloc (.cells #[.int .i64 (a + 1), .int .i64 r] 25) := ⟨_, rfl⟩
              have hA5 : Below w5.heap.size w5 W5 := by rw [hW5]; exact (Below.refl _ w5).alloc (Nat.le_refl _) _
              have HE5 := Lib.hid hW5
              have HW5 := Lib.hid (hB5.trans (hA5.mono hB5.size))
              have HC5 := Lib.hid (hc5.below hA5)
              have HO5 := Lib.hid (hO5.below hA5)
              have HS5 := Lib.hid (show Lies W5 w5.heap.size [.int .i64 (a + 1), .int .i64 r] 25 by rw [hW5]; exact Lies.new w5 _ _)
              obtain ⟨B9, hB9⟩ : ∃ B9, B9 = w5.heap.size := ⟨_, rfl⟩
              have HB9 := Lib.hid hB9
              rw [← hB9] at HS5
              clear hb5 hB5 hO5 hc5 hW5 hA5 hB9
              go_wp2_with fail
              rw [← HE5.out, ← HB9.out]
              go_loopg [69] nx (fun gh s69 wx => ∃ k : Nat, k + gh = nx ∧ s69 = .int .i64 (k : Int) ∧ Below W5.heap.size W5 wx)
              case atStart => exact ⟨0, by omega, by go_num, Below.refl _ _⟩
              case round =>
                obtain ⟨k, hk, rfl, hb6⟩ := hrel
                rename World => W6
                have HW6 := Lib.hid hb6
                have HS6 := Lib.hid (HS5.out.below hb6)
                have hs0 := HS6.out.cell (i := 0) rfl
                have hs1 := HS6.out.cell (i := 1) rfl
                clear hb6
                by_cases hkN : k < nx
                · have q7 : decide ((k : Int) < (nx : Int)) = true := decide_eq_true (by omega)
                  have q7' : decide (k < nx) = true := decide_eq_true hkN
                  obtain ⟨⟨x1, x2⟩, hx⟩ : ∃ x, A[k]? = some x := ⟨_, List.getElem?_eq_getElem (by rw [← HNx.out]; exact hkN)⟩
                  obtain ⟨xb, xo, hpx, hxc1, hxc2⟩ := (HO5.out.stamps.grown HW6.out) k _ hx
                  have hless : less (x1, x2) (a + 1, r) = true := below_time (HAx.out _ (List.mem_of_getElem? hx))
                  have HLs := HL.out x1 x2 (a + 1) r
                  rw [hless] at HLs
                  replace HLs := Lib.hid HLs
                  subst hpx
                  have hA7 : Below W6.heap.size W6 (W6.alloc (.cells #[.int .i64 x1, .int .i64 x2] 25)) := (Below.refl _ W6).alloc (Nat.le_refl _) _
                  have HB7 := Lib.hid (HW6.out.trans (hA7.mono HW6.out.size))
                  have hs7 := HS6.out.below hA7
                  have ht0 := hs7.cell (i := 0) rfl
                  have ht1 := hs7.cell (i := 1) rfl
                  clear hx hless hA7 hs7
                  go_wp2_with (go_at_call 8; refine (HLs.out _).mono ?_; rintro e w8 ⟨rfl, hb8⟩; have HB8 := Lib.hid (HB7.out.trans (hb8.mono HB7.out.size)); clear hb8)
                  go_roundg (nx - (k + 1))
                  case measure => omega
                  case rel => exact ⟨k + 1, by omega, by go_num, HB8.out⟩
                · have q7 : decide ((k : Int) < (nx : Int)) = false := decide_eq_false (by omega)
                  have q7' : decide (k < nx) = false := decide_eq_false hkN
                  have hA7 : Below W6.heap.size W6 (W6.alloc (.cells #[.int .i64 (a + 1), .int .i64 r] 25)) := (Below.refl _ W6).alloc (Nat.le_refl _) _
                  have hB6 := HW5.out.trans (HW6.out.mono HW5.out.size)
                  have HB7 := Lib.hid (hB6.trans (hA7.mono hB6.size))
                  have hC6 := HC5.out.below HW6.out
                  have HC7 := Lib.hid (hC6.below hA7)
                  have hO7 := (HO5.out.below HW6.out).below hA7
                  unfold OwnS at hO7
                  rw [← HNx.out] at hO7
                  have HO7 := Lib.hid hO7
                  have HL7 := Lib.hid (show b + 1 ≤ (W6.alloc (.cells #[.int .i64 (a + 1), .int .i64 r] 25)).heap.size by have := HC7.out.lt; omega)
                  clear hA7 hB6 hC6 hO7
                  go_wp2_with (at_builtin; refine wpList_append_own _ rfl _ _ 22 rfl (b + 1) 25 ii _ 2 16 Try.underlying22 hii hi0 hi1 hi2 rfl (by decide) _ _ _ rfl HO7.out ⟨_, 0, none⟩ 1 1 [.int .i64 (a + 1), .int .i64 r] rfl rfl (two_put _ _ _ _ _ (by simp)) (fun u hu => by simp at hu; rcases hu with rfl | rfl <;> rfl) (by unfold maxLen; omega) (by omega) HL7.out ?_; intro v9 w9 hown9 hgrow9 hnil9; clear hnil9)
                  have hrow : ∀ q, (Value.slice p7 nx c7).ownBlock = some q → b + 1 ≤ q := fun q hq => (World.ownsRow.lt HO7.out q hq).1
                  have HO9 := Lib.hid (OwnS.more (a := (a + 1, r)) HNx.out hown9)
                  have HC9 := Lib.hid (HC7.out.grown hgrow9 (fun q hq => hrow q hq))
                  have HB9' := Lib.hid (HB7.out.grown hgrow9 HB7.out.size (fun q hq => by have := hrow q hq; omega))
                  have hAl : (A ++ [((a + 1, r) : St)]).length ≤ 2 * (i + 1) := by rw [List.length_append, ← HNx.out]; simp; omega
                  go_roundg (N - (i + 1))
                  case measure => omega
                  case rel => exact ⟨i + 1, a + 1, A ++ [(a + 1, r)], by omega, by omega, by go_num, by omega, by omega, HC9.out, HB9'.out, HO9.out, hAl, Lib.hid (all_snoc HAx.out (by omega) (Int.le_refl _))⟩
            · rw [if_neg haM] at h5
              obtain ⟨⟨x, rfl, hx⟩, hc5⟩ := h5
              obtain ⟨T, y, rfl⟩ := hx.iface
              have HB5 := Lib.hid (hB5.alloc hB5.size (.cells #[.int .i64 0, .int .i64 0] 25))
              have HC5 := Lib.hid (hc5.below ((Below.refl _ w5).alloc (Nat.le_refl _) (.cells #[.int .i64 0, .int .i64 0] 25)))
              have q8 : (a == 1099511627776) = true := by rw [beq_iff_eq]; omega
              clear hx hb5 hB5 hO5 hc5
              go_wp2_with (go_at_call 17; refine (HTm.out b r a _ HC5.out).mono ?_; rintro e w8 ⟨rfl, hb8⟩; have HB8 := Lib.hid (HB5.out.trans (hb8.mono HB5.out.size)); clear hb8)
              go_ret
              exact ⟨by rw [← q8]; rfl, HB8.out⟩
        · have q2 : decide ((i : Int) < (100 : Int)) = false := decide_eq_false (by omega)
          have q2' : decide (i < 100) = false := decide_eq_false hi100
          go_wp2
          go_ret
          exact ⟨rfl, HW1.out⟩
      · have q1 : decide ((i : Int) < (N : Int)) = false := decide_eq_false (by omega)
        have q1' : decide (i < N) = false := decide_eq_false hiN
        go_wp2
        go_ret
        exact ⟨rfl, HW1.out⟩
  · rw [if_neg (by rw [hrt]; exact Bool.false_ne_true)] at hnew
    obtain ⟨x, rfl, hx⟩ := hnew
    obtain ⟨T, y, rfl⟩ := hx.iface
    clear hx
    go_wp2
    go_ret
    exact ⟨rfl, HB2.out⟩
end Go.Proofs.Ytlhilpmlffbnkaa
