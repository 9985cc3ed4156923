/-
  The contract of chapter 5's helper few: a copy of the first 300 things, each of a kind that there is, or that one is too long. The conditions: the things' cells.
-/
import Derived.Test.YtpmhfoleafjlbaaDoorItemsOpen
import Derived.Test.YtpmhfoleafjlbaaDoorLies
namespace Go.Proofs.YtpmhfoleafjlbaaDoor
open Go.RowKit TextNat

def Item.tidy (x : Item) : Item := if x.k < 0 ∨ 3 < x.k then { x with k := 0 } else x
def Item.long (x : Item) : Bool := decide (70000 < x.s.size) || decide (100 < x.vl.length)
/-- What few answers. -/
def FewIs (B : Nat) (w : World) (xs : List Item) (e : Ending) : Prop :=
  if (xs.take 300).any Item.long then e = .returned (.tuple #[.slice none 0 0, .bool false])
  else ∃ g c, e = .returned (.tuple #[.slice (some ⟨g, 0, none⟩) ((xs.take 300).map Item.tidy).length c, .bool true]) ∧ B ≤ g ∧ g < w.heap.size ∧ ItemsAt w g ((xs.take 300).map Item.tidy)
theorem info_item : (Tryd.prog.info? 65).map (fun i => (i.zero, i.size, i.bytes)) = some (some (.agg #[.int .i64 0, .int .i64 0, .string ⟨#[]⟩, .bool false, .slice none 0 0]), 5, 64) := by kernel_rfl
theorem flat_len : ∀ xs : List Item, (xs.flatMap Item.cells).length = xs.length * 5
  | [] => rfl
  | x :: r => by
    rw [List.flatMap_cons, List.length_append, flat_len r, List.length_cons]
    show 5 + _ = _
    omega
theorem flat_one : ∀ (xs : List Item), ∀ u ∈ xs.flatMap Item.cells, u.oneCell' = true := fun xs u hu => by
  obtain ⟨x, _, hx⟩ := List.mem_flatMap.1 hu
  simp only [Item.cells, List.mem_cons, List.not_mem_nil, or_false] at hx
  rcases hx with rfl | rfl | rfl | rfl | rfl <;> rfl
theorem news_cells {w : World} {ad : Addr} {xs : List Item} (h : ItemsIn w (some ad) xs) : ∀ (j : Nat) (u : Value), (xs.flatMap Item.cells)[j]? = some u → w.cell? (ad.add j) = some u := by
  intro j u hj
  have hlt := (List.getElem?_eq_some_iff.1 hj).1
  rw [flat_len] at hlt
  have hi : j / 5 < xs.length := by omega
  obtain ⟨b, off, hp, hc, _⟩ := h (j / 5) (xs[j / 5]'hi) (List.getElem?_eq_getElem hi)
  obtain rfl := Option.some.inj hp
  have hd := cells_at (List.getElem?_eq_getElem hi) (j % 5) (by omega)
  rw [show j / 5 * 5 + j % 5 = j by omega] at hd
  rw [hj] at hd
  have := hc (j % 5) u hd.symm
  rw [show j / 5 * 5 + j % 5 = j by omega] at this
  rw [WideShapes.add_plain]
  exact this
theorem set_cells {x : Item} : ∀ {xs : List Item} {i : Nat}, xs[i]? = some x → (xs.flatMap Item.cells).set (i * 5) (.int .i64 0) = (xs.set i { x with k := 0 }).flatMap Item.cells
  | [], i, h => by simp at h
  | y :: r, 0, h => by
    obtain rfl : y = x := by simpa using h
    rfl
  | y :: r, i + 1, h => by
    have hy : y.cells.length = 5 := rfl
    rw [List.flatMap_cons, List.set_append_right _ _ (by omega), show (i + 1) * 5 - y.cells.length = i * 5 by omega, set_cells (xs := r) (by simpa using h), List.set_cons_succ, List.flatMap_cons]
/-- The copy, its first i things tidied. -/
def tidied (ys : List Item) (i : Nat) : List Item := (ys.take i).map Item.tidy ++ ys.drop i
theorem tidied_at {ys : List Item} {i : Nat} {x : Item} (h : ys[i]? = some x) : (tidied ys i)[i]? = some x := by
  have hi := (List.getElem?_eq_some_iff.1 h).1
  unfold tidied
  rw [List.getElem?_append_right (by simp; omega)]
  simp [h, show i - min i ys.length = 0 by omega]
theorem tidied_keep {ys : List Item} {i : Nat} {x : Item} (h : ys[i]? = some x) (ht : x.tidy = x) : tidied ys (i + 1) = tidied ys i := by
  have hi := (List.getElem?_eq_some_iff.1 h).1
  unfold tidied
  rw [List.take_add_one, h, List.drop_eq_getElem_cons hi, (List.getElem?_eq_some_iff.1 h).2]
  simp [ht]
theorem tidied_set {ys : List Item} {i : Nat} {x : Item} (h : ys[i]? = some x) : tidied ys (i + 1) = (tidied ys i).set i x.tidy := by
  have hi := (List.getElem?_eq_some_iff.1 h).1
  unfold tidied
  rw [List.take_add_one, h, List.drop_eq_getElem_cons hi, (List.getElem?_eq_some_iff.1 h).2, List.set_append_right _ _ (by simp; omega)]
  simp [show i - min i ys.length = 0 by omega]
theorem tidied_all {ys : List Item} {i : Nat} (h : ys.length ≤ i) : tidied ys i = ys.map Item.tidy := by
  unfold tidied
  rw [List.take_of_length_le h, List.drop_eq_nil_of_le h, List.append_nil]
theorem any_take {α : Type} {p : α → Bool} {ys : List α} {i : Nat} {x : α} (h : ys[i]? = some x) (ha : (ys.take i).any p = false) (hx : p x = false) : (ys.take (i + 1)).any p = false := by
  rw [List.take_add_one, h, List.any_append, ha]
  simp [hx]
theorem itemsAt_row {w : World} {g : Nat} {ys : List Item} {tl : List Value} {T : TypeId} (h : Lies w g (ys.map Item.tidy |>.flatMap Item.cells |>.append tl) T) (hv : ∀ x ∈ ys, Ints w x.vp x.vl) : ItemsAt w g (ys.map Item.tidy) := by
  intro i x hx
  have hc : ∀ j, j < 5 → w.cell? ⟨g, i * 5 + j, none⟩ = x.cells[j]? := fun j hj => by
    have h2 := cells_at hx j hj
    have hlt : j < x.cells.length := hj
    have h3 : ((ys.map Item.tidy).flatMap Item.cells ++ tl)[i * 5 + j]? = some (x.cells[j]'hlt) := by
      rw [List.getElem?_append_left, h2, List.getElem?_eq_getElem hlt]
      have := (List.getElem?_eq_some_iff.1 hx).1
      rw [flat_len]
      omega
    rw [Lies.cell h h3, List.getElem?_eq_getElem hlt]
  have hz : Ints w x.vp x.vl := by
    obtain ⟨y, hy, rfl⟩ := List.mem_map.1 (List.mem_of_getElem? hx)
    have := hv y hy
    unfold Item.tidy
    split <;> exact this
  exact ⟨hc 0 (by omega), hc 1 (by omega), hc 2 (by omega), hc 3 (by omega), hc 4 (by omega), hz⟩
theorem own_row {w : World} {base : Nat} {T : TypeId} {v : Value} {n : Nat} {xs : List Value} (h : w.ownsRow base T 5 v n xs) (hne : v ≠ .slice none 0 0) : ∃ g c tl, v = .slice (some ⟨g, 0, none⟩) n c ∧ base ≤ g ∧ Lies w g (xs ++ tl) T ∧ n ≤ c ∧ c ≤ maxLen := by
  rcases h.2 with ⟨h, _⟩ | ⟨g, cap, cur, h1, h2, h3, h4, h5, h6, h7⟩
  · exact absurd h hne
  · refine ⟨g, cap, cur.toList.drop (n * 5), h1, h2, ?_, h4, h5⟩
    unfold Lies
    rw [h3, ← h7, List.take_append_drop, Array.toArray_toList]

set_option maxRecDepth 100000 in
set_option maxHeartbeats 4000000 in
theorem few_walk (xs : List Item) (ad : Addr) (N cap : Nat) (w : World) (hN : N = xs.length) (hI : ItemsIn w (some ad) xs) (hs : ∀ x ∈ xs, x.small) (hc : N ≤ cap) (hm : cap ≤ 9223372036854775807) :
    Calls Tryd.prog 6 #[.slice (some ad) N cap] w fun e w' => FewIs w.heap.size w' xs e ∧ Below w.heap.size w w' := by
  obtain ⟨ii, hii, hi0, hi1, hi2⟩ := info_parts info_item
  obtain ⟨ys, hys⟩ : ∃ ys, ys = xs.take 300 := ⟨_, rfl⟩
  have hylt : ys.length ≤ 300 := by rw [hys, List.length_take]; omega
  have hyI : ItemsIn w (some ad) ys := fun i x hx => by
    rw [hys, List.getElem?_take] at hx
    split at hx
    · exact hI i x hx
    · cases hx
  have hyS : ∀ x ∈ ys, x.small := fun x hx => hs x (by rw [hys] at hx; exact List.mem_of_mem_take hx)
  have hW : Below w.heap.size w (w.alloc (.cells #[] 65)) := (Below.refl _ _).alloc (Nat.le_refl _) _
  have HNews := Lib.hid (news_cells (hyI.grown hW))
  have HI := Lib.hid (show ∀ x ∈ ys, Ints w x.vp x.vl from fun x hx => by
    obtain ⟨i, hi⟩ := List.getElem?_of_mem hx
    obtain ⟨_, _, _, _, hz⟩ := hyI i x hi
    exact hz)
  have HS := Lib.hid hyS
  have HY := Lib.hid hys
  have HW := Lib.hid hW
  have HFalse := Lib.hid (show ∀ w' , ys.any Item.long = true → FewIs w.heap.size w' xs (.returned (.tuple #[.slice none 0 0, .bool false])) from fun w' h => by unfold FewIs; rw [← hys, if_pos h])
  have HTrue := Lib.hid (show ∀ w' g c tl, ys.any Item.long = false → w.heap.size ≤ g → Lies w' g ((tidied ys ys.length).flatMap Item.cells ++ tl) 65 → Below w.heap.size w w' → FewIs w.heap.size w' xs (.returned (.tuple #[.slice (some ⟨g, 0, none⟩) ys.length c, .bool true])) from fun w' g c tl h hg hr hb => by
    unfold FewIs
    rw [← hys, if_neg (by rw [h]; decide)]
    rw [tidied_all (Nat.le_refl _)] at hr
    refine ⟨g, c, by rw [List.length_map], hg, hr.lt, ?_⟩
    exact itemsAt_row (tl := tl) (T := 65) hr (fun x hx => (HI.out x hx).grown hb))
  by_cases h3 : N ≤ 300
  · have hyl : ys.length = N := by rw [hys, List.length_take]; omega
    have HYL := Lib.hid hyl
    rw [hyl] at HTrue
    have hl5 := flat_len ys
    rw [hyl] at hl5
    have HL5 := Lib.hid hl5
    skip
    clear hylt hyI hyS hI hs hN hys hW hyl hl5
    go_enter Tryd.func6, Tryd.ntmps6
    go_wp2_with (at_builtin; refine wpList_append_own _ rfl _ _ 22 rfl w.heap.size 65 ii _ 5 64 Tryd.underlying22 hii hi0 hi1 hi2 rfl (by decide) _ _ _ rfl (World.ownsRow_made w #[] 0 (Nat.le_refl _) (by unfold maxLen; omega) rfl) ad N cap (ys.flatMap Item.cells) rfl HL5.out HNews.out (flat_one ys) (by unfold maxLen; omega) (by omega) HW.out.size ?_; intro v1 w1 hown hgrow hnil; obtain ⟨g, c1, tl, rfl, hg, hly, hgc, hcm⟩ := own_row hown (fun h => by have := (hnil.1 h).1; cases this); have HB := Lib.hid (HW.out.grown hgrow HW.out.size (fun k hk => ((World.ownsRow_made (e := 65) (size := 5) w #[] 0 (Nat.le_refl _) (by unfold maxLen; omega) rfl).lt k hk).1)); have HL := Lib.hid (show Lies w1 g ((tidied ys 0).flatMap Item.cells ++ tl) 65 from hly); clear hown hgrow hnil hly HW HNews)
    go_loopg [15] N (fun gh s15 wx => ∃ i : Nat, i + gh = N ∧ s15 = .int .i64 (i : Int) ∧ Lies wx g ((tidied ys i).flatMap Item.cells ++ tl) 65 ∧ Below w.heap.size w wx ∧ (ys.take i).any Item.long = false)
    case atStart => exact ⟨0, by omega, by go_num, HL.out, HB.out, rfl⟩
    case round =>
      obtain ⟨i, hi, rfl, hly, hb, hno⟩ := hrel
      have HLr := Lib.hid hly
      have HBr := Lib.hid hb
      have HNo := Lib.hid hno
      clear hly hb hno HL HB
      by_cases hiN : i < N
      · have t0 : decide ((i : Int) < (N : Int)) = true := decide_eq_true (by omega)
        have t0' : decide (i < N) = true := decide_eq_true hiN
        obtain ⟨x, hx⟩ : ∃ x, ys[i]? = some x := ⟨_, List.getElem?_eq_getElem (by rw [HYL.out]; exact hiN)⟩
        have hxs := HS.out x (List.mem_of_getElem? hx)
        have hcell : ∀ j, j < 5 → wr.cell? ⟨g, i * 5 + j, none⟩ = x.cells[j]? := fun j hj => by
          have h2 := cells_at (tidied_at hx) j hj
          have hlt : j < x.cells.length := hj
          have h3 : ((tidied ys i).flatMap Item.cells ++ tl)[i * 5 + j]? = some (x.cells[j]'hlt) := by
            rw [List.getElem?_append_left, h2, List.getElem?_eq_getElem hlt]
            have := (List.getElem?_eq_some_iff.1 (tidied_at hx)).1
            rw [flat_len]
            omega
          rw [Lies.cell HLr.out h3, List.getElem?_eq_getElem hlt]
        have c0 : wr.cell? ⟨g, i * 5, none⟩ = some (.int .i64 x.k) := hcell 0 (by omega)
        have c2 : wr.cell? ⟨g, i * 5 + 2, none⟩ = some (.string x.s) := hcell 2 (by omega)
        have c4 : wr.cell? ⟨g, i * 5 + 4, none⟩ = some (.slice x.vp x.vl.length x.vc) := hcell 4 (by omega)
        have fz := HLr.out.free (i * 5)
        have b1 := hxs.s
        have b2 := hxs.v
        unfold maxLen at b1 b2
        have HX := Lib.hid hx
        have HLong := Lib.hid (show x.long = true → ys.any Item.long = true from fun h => List.any_eq_true.2 ⟨x, List.mem_of_getElem? hx, h⟩)
        clear hcell hxs hx
        by_cases h7 : 70000 < x.s.size
        · have t1 : decide ((70000 : Int) < (x.s.size : Int)) = true := decide_eq_true (by omega)
          have t1' : decide (70000 < x.s.size) = true := decide_eq_true h7
          have HE := Lib.hid (HLong.out (by unfold Item.long; rw [t1']; rfl))
          clear HLong
          go_wp2
          go_ret2
          exact ⟨HFalse.out _ HE.out, HBr.out⟩
        · have t1 : decide ((70000 : Int) < (x.s.size : Int)) = false := decide_eq_false (by omega)
          have t1' : decide (70000 < x.s.size) = false := decide_eq_false h7
          by_cases h8 : 100 < x.vl.length
          · have t2 : decide ((100 : Int) < (x.vl.length : Int)) = true := decide_eq_true (by omega)
            have t2' : decide (100 < x.vl.length) = true := decide_eq_true h8
            have HE := Lib.hid (HLong.out (by unfold Item.long; rw [t1', t2']; rfl))
            clear HLong
            go_wp2
            go_ret2
            exact ⟨HFalse.out _ HE.out, HBr.out⟩
          · have t2 : decide ((100 : Int) < (x.vl.length : Int)) = false := decide_eq_false (by omega)
            have t2' : decide (100 < x.vl.length) = false := decide_eq_false h8
            have HNo1 := Lib.hid (any_take HX.out HNo.out (by unfold Item.long; rw [t1', t2']; rfl))
            have HLs := Lib.hid (show x.k < 0 ∨ 3 < x.k → Lies (wr.setCell ⟨g, i * 5, none⟩ (.int .i64 0)) g ((tidied ys (i + 1)).flatMap Item.cells ++ tl) 65 from fun h => by
              have h1 := HLr.out.set (i * 5) (.int .i64 0)
              have hlt : i * 5 < ((tidied ys i).flatMap Item.cells).length := by
                have := (List.getElem?_eq_some_iff.1 (tidied_at HX.out)).1
                rw [flat_len]
                omega
              rw [List.set_append_left _ _ hlt, set_cells (tidied_at HX.out)] at h1
              rw [tidied_set HX.out, show x.tidy = { x with k := 0 } from by unfold Item.tidy; rw [if_pos h]]
              exact h1)
            have HLk := Lib.hid (show ¬ (x.k < 0 ∨ 3 < x.k) → Lies wr g ((tidied ys (i + 1)).flatMap Item.cells ++ tl) 65 from fun h => by
              rw [tidied_keep HX.out (by unfold Item.tidy; rw [if_neg h])]
              exact HLr.out)
            by_cases k1 : x.k < 0
            · have t3 : decide (x.k < 0) = true := decide_eq_true k1
              go_wp2
              go_roundg (N - (i + 1))
              case measure => omega
              case rel => exact ⟨i + 1, by omega, by go_num, HLs.out (Or.inl k1), HBr.out.setCell (p := ⟨g, i * 5, none⟩) hg _, HNo1.out⟩
            · have t3 : decide (x.k < 0) = false := decide_eq_false k1
              by_cases k2 : 3 < x.k
              · have t4 : decide (3 < x.k) = true := decide_eq_true k2
                go_wp2
                go_roundg (N - (i + 1))
                case measure => omega
                case rel => exact ⟨i + 1, by omega, by go_num, HLs.out (Or.inr k2), HBr.out.setCell (p := ⟨g, i * 5, none⟩) hg _, HNo1.out⟩
              · have t4 : decide (3 < x.k) = false := decide_eq_false k2
                go_wp2
                go_roundg (N - (i + 1))
                case measure => omega
                case rel => exact ⟨i + 1, by omega, by go_num, HLk.out (by omega), HBr.out, HNo1.out⟩
      · have hiM : i = N := by omega
        have t0 : decide ((i : Int) < (N : Int)) = false := decide_eq_false (by omega)
        have t0' : decide (i < N) = false := decide_eq_false (by omega)
        have HE := Lib.hid (show ys.any Item.long = false by rw [← HNo.out, hiM, ← HYL.out, List.take_length])
        have HLe := Lib.hid (show Lies wr g ((tidied ys N).flatMap Item.cells ++ tl) 65 by rw [← hiM]; exact HLr.out)
        clear hiM
        go_wp2
        go_ret2
        exact ⟨HTrue.out _ _ _ _ HE.out hg HLe.out HBr.out, HBr.out⟩
  · have hyl : ys.length = 300 := by rw [hys, List.length_take]; omega
    have HYL := Lib.hid hyl
    rw [hyl] at HTrue
    have hl5 := flat_len ys
    rw [hyl] at hl5
    have HL5 := Lib.hid hl5
    have h3' : 300 < N := by omega
    clear hylt hyI hyS hI hs hN hys hW hyl hl5
    go_enter Tryd.func6, Tryd.ntmps6
    go_wp2_with (at_builtin; refine wpList_append_own _ rfl _ _ 22 rfl w.heap.size 65 ii _ 5 64 Tryd.underlying22 hii hi0 hi1 hi2 rfl (by decide) _ _ _ rfl (World.ownsRow_made w #[] 0 (Nat.le_refl _) (by unfold maxLen; omega) rfl) ad 300 cap (ys.flatMap Item.cells) rfl HL5.out HNews.out (flat_one ys) (by unfold maxLen; omega) (by omega) HW.out.size ?_; intro v1 w1 hown hgrow hnil; obtain ⟨g, c1, tl, rfl, hg, hly, hgc, hcm⟩ := own_row hown (fun h => by have := (hnil.1 h).1; cases this); have HB := Lib.hid (HW.out.grown hgrow HW.out.size (fun k hk => ((World.ownsRow_made (e := 65) (size := 5) w #[] 0 (Nat.le_refl _) (by unfold maxLen; omega) rfl).lt k hk).1)); have HL := Lib.hid (show Lies w1 g ((tidied ys 0).flatMap Item.cells ++ tl) 65 from hly); clear hown hgrow hnil hly HW HNews)
    go_loopg [15] 300 (fun gh s15 wx => ∃ i : Nat, i + gh = 300 ∧ s15 = .int .i64 (i : Int) ∧ Lies wx g ((tidied ys i).flatMap Item.cells ++ tl) 65 ∧ Below w.heap.size w wx ∧ (ys.take i).any Item.long = false)
    case atStart => exact ⟨0, by omega, by go_num, HL.out, HB.out, rfl⟩
    case round =>
      obtain ⟨i, hi, rfl, hly, hb, hno⟩ := hrel
      have HLr := Lib.hid hly
      have HBr := Lib.hid hb
      have HNo := Lib.hid hno
      clear hly hb hno HL HB
      by_cases hiN : i < 300
      · have t0 : decide ((i : Int) < (300 : Int)) = true := decide_eq_true (by omega)
        have t0' : decide (i < 300) = true := decide_eq_true hiN
        obtain ⟨x, hx⟩ : ∃ x, ys[i]? = some x := ⟨_, List.getElem?_eq_getElem (by rw [HYL.out]; exact hiN)⟩
        have hxs := HS.out x (List.mem_of_getElem? hx)
        have hcell : ∀ j, j < 5 → wr.cell? ⟨g, i * 5 + j, none⟩ = x.cells[j]? := fun j hj => by
          have h2 := cells_at (tidied_at hx) j hj
          have hlt : j < x.cells.length := hj
          have h3 : ((tidied ys i).flatMap Item.cells ++ tl)[i * 5 + j]? = some (x.cells[j]'hlt) := by
            rw [List.getElem?_append_left, h2, List.getElem?_eq_getElem hlt]
            have := (List.getElem?_eq_some_iff.1 (tidied_at hx)).1
            rw [flat_len]
            omega
          rw [Lies.cell HLr.out h3, List.getElem?_eq_getElem hlt]
        have c0 : wr.cell? ⟨g, i * 5, none⟩ = some (.int .i64 x.k) := hcell 0 (by omega)
        have c2 : wr.cell? ⟨g, i * 5 + 2, none⟩ = some (.string x.s) := hcell 2 (by omega)
        have c4 : wr.cell? ⟨g, i * 5 + 4, none⟩ = some (.slice x.vp x.vl.length x.vc) := hcell 4 (by omega)
        have fz := HLr.out.free (i * 5)
        have b1 := hxs.s
        have b2 := hxs.v
        unfold maxLen at b1 b2
        have HX := Lib.hid hx
        have HLong := Lib.hid (show x.long = true → ys.any Item.long = true from fun h => List.any_eq_true.2 ⟨x, List.mem_of_getElem? hx, h⟩)
        clear hcell hxs hx
        by_cases h7 : 70000 < x.s.size
        · have t1 : decide ((70000 : Int) < (x.s.size : Int)) = true := decide_eq_true (by omega)
          have t1' : decide (70000 < x.s.size) = true := decide_eq_true h7
          have HE := Lib.hid (HLong.out (by unfold Item.long; rw [t1']; rfl))
          clear HLong
          go_wp2
          go_ret2
          exact ⟨HFalse.out _ HE.out, HBr.out⟩
        · have t1 : decide ((70000 : Int) < (x.s.size : Int)) = false := decide_eq_false (by omega)
          have t1' : decide (70000 < x.s.size) = false := decide_eq_false h7
          by_cases h8 : 100 < x.vl.length
          · have t2 : decide ((100 : Int) < (x.vl.length : Int)) = true := decide_eq_true (by omega)
            have t2' : decide (100 < x.vl.length) = true := decide_eq_true h8
            have HE := Lib.hid (HLong.out (by unfold Item.long; rw [t1', t2']; rfl))
            clear HLong
            go_wp2
            go_ret2
            exact ⟨HFalse.out _ HE.out, HBr.out⟩
          · have t2 : decide ((100 : Int) < (x.vl.length : Int)) = false := decide_eq_false (by omega)
            have t2' : decide (100 < x.vl.length) = false := decide_eq_false h8
            have HNo1 := Lib.hid (any_take HX.out HNo.out (by unfold Item.long; rw [t1', t2']; rfl))
            have HLs := Lib.hid (show x.k < 0 ∨ 3 < x.k → Lies (wr.setCell ⟨g, i * 5, none⟩ (.int .i64 0)) g ((tidied ys (i + 1)).flatMap Item.cells ++ tl) 65 from fun h => by
              have h1 := HLr.out.set (i * 5) (.int .i64 0)
              have hlt : i * 5 < ((tidied ys i).flatMap Item.cells).length := by
                have := (List.getElem?_eq_some_iff.1 (tidied_at HX.out)).1
                rw [flat_len]
                omega
              rw [List.set_append_left _ _ hlt, set_cells (tidied_at HX.out)] at h1
              rw [tidied_set HX.out, show x.tidy = { x with k := 0 } from by unfold Item.tidy; rw [if_pos h]]
              exact h1)
            have HLk := Lib.hid (show ¬ (x.k < 0 ∨ 3 < x.k) → Lies wr g ((tidied ys (i + 1)).flatMap Item.cells ++ tl) 65 from fun h => by
              rw [tidied_keep HX.out (by unfold Item.tidy; rw [if_neg h])]
              exact HLr.out)
            by_cases k1 : x.k < 0
            · have t3 : decide (x.k < 0) = true := decide_eq_true k1
              go_wp2
              go_roundg (300 - (i + 1))
              case measure => omega
              case rel => exact ⟨i + 1, by omega, by go_num, HLs.out (Or.inl k1), HBr.out.setCell (p := ⟨g, i * 5, none⟩) hg _, HNo1.out⟩
            · have t3 : decide (x.k < 0) = false := decide_eq_false k1
              by_cases k2 : 3 < x.k
              · have t4 : decide (3 < x.k) = true := decide_eq_true k2
                go_wp2
                go_roundg (300 - (i + 1))
                case measure => omega
                case rel => exact ⟨i + 1, by omega, by go_num, HLs.out (Or.inr k2), HBr.out.setCell (p := ⟨g, i * 5, none⟩) hg _, HNo1.out⟩
              · have t4 : decide (3 < x.k) = false := decide_eq_false k2
                go_wp2
                go_roundg (300 - (i + 1))
                case measure => omega
                case rel => exact ⟨i + 1, by omega, by go_num, HLk.out (by omega), HBr.out, HNo1.out⟩
      · have hiM : i = 300 := by omega
        have t0 : decide ((i : Int) < (300 : Int)) = false := decide_eq_false (by omega)
        have t0' : decide (i < 300) = false := decide_eq_false (by omega)
        have HE := Lib.hid (show ys.any Item.long = false by rw [← HNo.out, hiM, ← HYL.out, List.take_length])
        have HLe := Lib.hid (show Lies wr g ((tidied ys 300).flatMap Item.cells ++ tl) 65 by rw [← hiM]; exact HLr.out)
        clear hiM
        go_wp2
        go_ret2
        exact ⟨HTrue.out _ _ _ _ HE.out hg HLe.out HBr.out, HBr.out⟩

set_option maxRecDepth 100000 in
set_option maxHeartbeats 4000000 in
theorem few_none (w : World) : Calls Tryd.prog 6 #[.slice none 0 0] w fun e w' => FewIs w.heap.size w' [] e ∧ Below w.heap.size w w' := by
  obtain ⟨ii, hii, hi0, hi1, hi2⟩ := info_parts info_item
  have HR := Lib.hid (show FewIs w.heap.size (w.alloc (.cells #[] 65)) [] (.returned (.tuple #[.slice (some ⟨w.heap.size, 0, none⟩) 0 0, .bool true])) from by
    unfold FewIs
    exact ⟨w.heap.size, 0, rfl, Nat.le_refl _, by simp, fun i x h => by simp at h⟩)
  have t0 : decide ((0 : Int) < 0) = false := decide_eq_false (by omega)
  go_enter Tryd.func6, Tryd.ntmps6
  go_wp2
  go_loopg [15] 0 (fun gh s15 wx => s15 = .int .i64 0 ∧ wx = w.alloc (.cells #[] 65))
  case atStart => exact ⟨rfl, rfl⟩
  case round =>
    obtain ⟨rfl, rfl⟩ := hrel
    go_wp2
    go_ret2
    exact ⟨HR.out, (Below.refl _ _).alloc (Nat.le_refl _) _⟩
/-- What few answers of things that came in. -/
theorem few_ok (xs : List Item) (pp : Option Addr) (cap : Nat) (w : World) (hI : ItemsIn w pp xs) (hs : ∀ x ∈ xs, x.small) (hc : xs.length ≤ cap) (hm : cap ≤ maxLen) (hn : pp = none → cap = 0) :
    Calls Tryd.prog 6 #[.slice pp xs.length cap] w fun e w' => FewIs w.heap.size w' xs e ∧ Below w.heap.size w w' := by
  cases pp with
  | some ad => exact few_walk xs ad xs.length cap w rfl hI hs hc (by unfold maxLen at hm; omega)
  | none =>
    obtain rfl := hn rfl
    obtain rfl : xs = [] := List.eq_nil_of_length_eq_zero (by omega)
    exact few_none w
end Go.Proofs.YtpmhfoleafjlbaaDoor
