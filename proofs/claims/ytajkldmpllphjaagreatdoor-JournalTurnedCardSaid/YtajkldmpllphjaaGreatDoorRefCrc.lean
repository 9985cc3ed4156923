/-
  The contract of the document's own Sum of chapter 2: of any bytes (up to 20000) it is the sum, and old memory is as it was. The condition: the slice's cells are told.
-/
import Derived.Test.YtajkldmpllphjaaGreatDoorProg
import Derived.Test.YtajkldmpllphjaaGreatDoorPart01
import Derived.WalkKit
import Derived.Handy
import Derived.Outline
import Derived.Lib.Hide
import Derived.OwnWalk
import Derived.Deep.LoopGhost
namespace Go.Proofs.YtajkldmpllphjaaGreatDoor
open Go.RowKit CrcMath

theorem info3 : (Tryz.prog.info? 3).map (fun i => (i.zero, i.size, i.bytes)) = some (some (.int .i64 0), 1, 8) := by kernel_rfl

def b2i (b : Bool) : Int := if b then 1 else 0
/-- The first m bits of some bytes, as values. -/
def bitVals (zs : List Nat) (m : Nat) : List Value := (List.range m).map fun j => .int .i64 (b2i (mbit zs j))
theorem bitVals_succ (zs : List Nat) (m : Nat) : bitVals zs (m + 1) = bitVals zs m ++ [.int .i64 (b2i (mbit zs m))] := by
  unfold bitVals
  rw [List.range_succ, List.map_append]
  rfl
theorem bitVals_len (zs : List Nat) (m : Nat) : (bitVals zs m).length = m := by simp [bitVals]

theorem own_shape' {w : World} {base : Nat} {e : TypeId} {size : Nat} {v : Value} {n : Nat} {xs : List Value} (h : w.ownsRow base e size v n xs) : ∃ p cap, v = .slice p n cap := by
  rcases h.2 with ⟨rfl, rfl⟩ | ⟨g, cap, cur, rfl, _⟩
  · exact ⟨_, _, rfl⟩
  · exact ⟨_, _, rfl⟩
theorem one_new' (w : World) (u : Value) (T : TypeId) : ∀ j x, [u][j]? = some x → (w.alloc (.cells #[u] T)).cell? ((⟨w.heap.size, 0, none⟩ : Addr).add j) = some x := by
  intro j x hj
  match j, hj with
  | 0, hj => simp at hj; subst hj; simp [Addr.add]

/-- The row of bits at block G: N cells; they may be written. -/
structure Cells (G N : Nat) (f : Nat → Bool) (w : World) : Prop where
  cell : ∀ j, j < N → w.cell? ⟨G, j, none⟩ = some (.int .i64 (b2i (f j)))
  free : ∀ j, w.frozen? ⟨G, j, none⟩ = false
theorem Cells.set {G N t : Nat} {f : Nat → Bool} {w : World} (h : Cells G N f w) (ht : t < N) (b : Bool) : Cells G N (fun j => if j = t then b else f j) (w.setCell ⟨G, t, none⟩ (.int .i64 (b2i b))) := by
  refine ⟨fun j hj => ?_, fun j => by rw [World.frozen?_setCell]; exact h.free j⟩
  by_cases hjt : j = t
  · subst hjt
    rw [if_pos rfl]
    exact World.cell?_setCell_same _ _ _ (h.cell j hj)
  · rw [if_neg hjt]
    exact (World.cell?_setCell_other _ ⟨G, t, none⟩ ⟨G, j, none⟩ _ (by simp)).trans (h.cell j hj)
theorem Cells.congr {G N : Nat} {f f' : Nat → Bool} {w : World} (h : Cells G N f w) (he : ∀ j, j < N → f j = f' j) : Cells G N f' w :=
  ⟨fun j hj => by rw [← he j hj]; exact h.cell j hj, h.free⟩
theorem Cells.below {G N : Nat} {f : Nat → Bool} {w w' : World} (h : Cells G N f w) (hG : G < w.heap.size) (hb : Below w.heap.size w w') : Cells G N f w' :=
  ⟨fun j hj => (hb.cell (p := ⟨G, j, none⟩) hG).trans (h.cell j hj), fun j => (hb.frozen (p := ⟨G, j, none⟩) hG).trans (h.free j)⟩
theorem b2i_le (b : Bool) : 0 ≤ b2i b ∧ b2i b ≤ 1 := by cases b <;> decide
theorem b2i_not (b : Bool) : 1 - b2i b = b2i (!b) := by cases b <;> rfl

theorem turned_succ (zs : List Nat) (t j : Nat) : (if j = t then !mbit zs t else if j < t then !mbit zs j else mbit zs j) = (if j < t + 1 then !mbit zs j else mbit zs j) := by
  by_cases h : j = t
  · subst h
    rw [if_pos rfl, if_pos (by omega)]
  · rw [if_neg h]
    by_cases h2 : j < t
    · rw [if_pos h2, if_pos (by omega)]
    · rw [if_neg h2, if_neg (by omega)]

/-- The row in the midst of a round at bit i: q bits of those that are turned are turned. -/
def part (L : Nat → Bool) (i q : Nat) : Nat → Bool := fun j => L j ^^ decide (i ≤ j ∧ j - i ∈ offs.take q)
theorem part_zero (L : Nat → Bool) (i j : Nat) : L j = part L i 0 j := by simp [part]
theorem offs_table : ∀ q, q < 17 → (offs[q]?).any (fun d => !(offs.take q).contains d && offs.take (q + 1) == offs.take q ++ [d] && decide (4 ≤ d) && decide (d ≤ 32)) = true := by decide
theorem offs_new (q : Nat) (hq : q < 17) (d : Nat) (hd : offs[q]? = some d) : ¬ d ∈ offs.take q ∧ offs.take (q + 1) = offs.take q ++ [d] ∧ 4 ≤ d ∧ d ≤ 32 := by
  have h := offs_table q hq
  rw [hd] at h
  simp only [Option.any_some, Bool.and_eq_true, Bool.not_eq_true', decide_eq_true_eq, beq_iff_eq] at h
  obtain ⟨⟨⟨h1, h2⟩, h3⟩, h4⟩ := h
  exact ⟨fun hm => by simp [hm] at h1, h2, h3, h4⟩
theorem part_succ (L : Nat → Bool) (i q d j : Nat) (hq : q < 17) (hd : offs[q]? = some d) : (if j = i + d then !part L i q (i + d) else part L i q j) = part L i (q + 1) j := by
  obtain ⟨h1, h2, _, _⟩ := offs_new q hq d hd
  unfold part
  rw [h2]
  by_cases hj : j = i + d
  · subst hj
    have e : i + d - i = d := by omega
    rw [if_pos rfl, e]
    simp [h1, Nat.le_add_right]
  · rw [if_neg hj]
    congr 1
    have hne : ¬ (i ≤ j ∧ j - i = d) := fun h => hj (by omega)
    rw [decide_eq_decide]
    constructor
    · exact fun h => ⟨h.1, List.mem_append_left _ h.2⟩
    · intro h
      refine ⟨h.1, ?_⟩
      rcases List.mem_append.1 h.2 with h3 | h3
      · exact h3
      · exact absurd ⟨h.1, List.mem_singleton.1 h3⟩ hne
theorem part_all (zs : List Nat) (i j : Nat) (h : rows zs i i = true) : part (rows zs i) i 17 j = rows zs (i + 1) j := by
  show _ = rowStep (rows zs i) i j
  unfold part rowStep
  rw [h]
  rfl
theorem rows_still (zs : List Nat) (i j : Nat) (h : rows zs i i = false) : rows zs i j = rows zs (i + 1) j := by
  show _ = rowStep (rows zs i) i j
  unfold rowStep
  rw [h]
  rfl

/-- The powers at block P. -/
def Powers (P : Nat) (w : World) : Prop := ∀ (q d : Nat), offs[q]? = some d → w.cell? ⟨P, q, none⟩ = some (.int .i64 (32 - (d : Int)))
theorem powers_new (w : World) : Powers w.heap.size (w.alloc (.cells #[.int .i64 28, .int .i64 27, .int .i64 26, .int .i64 25, .int .i64 23, .int .i64 22, .int .i64 20, .int .i64 19, .int .i64 18, .int .i64 14, .int .i64 13, .int .i64 11, .int .i64 10, .int .i64 9, .int .i64 8, .int .i64 6, .int .i64 0] 3)) := by
  intro q d hd
  have hC : (#[.int .i64 28, .int .i64 27, .int .i64 26, .int .i64 25, .int .i64 23, .int .i64 22, .int .i64 20, .int .i64 19, .int .i64 18, .int .i64 14, .int .i64 13, .int .i64 11, .int .i64 10, .int .i64 9, .int .i64 8, .int .i64 6, .int .i64 0] : Array Value) = (offs.map fun (d : Nat) => Value.int .i64 (32 - (d : Int))).toArray := rfl
  rw [hC, World.cell?_alloc_at _ _ _ _ rfl, List.getElem?_toArray, List.getElem?_map, hd]
  rfl
theorem Powers.set {P G j : Nat} {w : World} {v : Value} (h : Powers P w) (hne : G ≠ P) : Powers P (w.setCell ⟨G, j, none⟩ v) := fun q d hd =>
  (World.cell?_setCell_other _ ⟨G, j, none⟩ ⟨P, q, none⟩ _ (by simp)).trans (h q d hd)

theorem gather_yes (f : Nat → Bool) (t : Nat) (h : f t = true) : gather f (t + 1) = gather f t + 2 ^ t := by
  show gather f t + (if f t then 2 ^ t else 0) = _
  rw [if_pos h]
theorem gather_no (f : Nat → Bool) (t : Nat) (h : f t = false) : gather f (t + 1) = gather f t := by
  show gather f t + (if f t then 2 ^ t else 0) = _
  rw [h]
  rfl

/-- A row that is owned, of at least one cell, as such a row of bits. -/
theorem cells_of_own {zs : List Nat} {base N : Nat} {v : Value} {w : World} (h : w.ownsRow base 3 1 v N (bitVals zs N)) (hN : 0 < N) :
    ∃ G cap, v = .slice (some ⟨G, 0, none⟩) N cap ∧ base ≤ G ∧ G < w.heap.size ∧ Cells G N (mbit zs) w := by
  rcases h.2 with ⟨_, h0⟩ | ⟨G, cap, cur, rfl, hG, hh, _⟩
  · omega
  · refine ⟨G, cap, rfl, hG, (h.lt G rfl).2, fun j hj => ?_, fun j => by simp [World.frozen?, hh]⟩
    rw [h.cellAt j (by omega)]
    unfold bitVals
    rw [List.getElem?_map, List.getElem?_range hj]
    rfl

theorem bit_val (zs : List Nat) (k t z y : Nat) (hk : zs[k]? = some z) (ht : t < 8) (hy : y = z / 2 ^ t) : Value.int .i64 (b2i (mbit zs (8 * k + t))) = .int .i64 ((y : Int) % 2) := by
  have h1 : mbit zs (8 * k + t) = z.testBit t := by
    rw [mbit_at zs k t ht]
    simp [List.getD, hk]
  have h2 := bit_toNat z t
  rw [← hy] at h2
  rw [h1]
  congr 1
  cases hb : z.testBit t
  · rw [hb] at h2
    have h3 : y % 2 = 0 := h2
    show (0 : Int) = _
    omega
  · rw [hb] at h2
    have h3 : y % 2 = 1 := h2
    show (1 : Int) = _
    omega

set_option maxRecDepth 100000 in
set_option maxHeartbeats 4000000 in
theorem refSum (zs : List Nat) (pp : Option Addr) (cap : Nat) (w : World) (hn : zs.length ≤ 20000) (hz : ∀ (i z : Nat), zs[i]? = some z → z < 256)
    (hc : ∀ (i z : Nat), zs[i]? = some z → ∃ b off, pp = some ⟨b, off, none⟩ ∧ w.cell? ⟨b, off + i, none⟩ = some (.int .u8 (z : Int))) :
    Calls Tryz.prog 72 #[.slice pp zs.length cap] w fun e w' => e = .returned (.int .u32 (sum zs : Nat)) ∧ Below w.heap.size w w' := by
  obtain ⟨i0, hi, hz0, hz1, hz2⟩ := info_parts info3
  have HZ := Lib.hid hz
  have HC := Lib.hid hc
  have HN := Lib.hid hn
  have H0 := Lib.hid (World.ownsRow_made (base := w.heap.size) (e := 3) (size := 1) w #[] 0 (Nat.le_refl _) (by simp) (by simp))
  have HB := Lib.hid ((Below.refl w.heap.size w).alloc (Nat.le_refl _) (.cells #[] 3))
  clear hz hc
  go_enter Tryz.func72, Tryz.ntmps72
  go_wp2
  go_loopg [3, 4] zs.length (fun g s3 s4 wx => ∃ k : Nat, k + g = zs.length ∧ s4 = .int .i64 k ∧ wx.ownsRow w.heap.size 3 1 s3 (8 * k) (bitVals zs (8 * k)) ∧ Below w.heap.size w wx)
  case atStart => exact ⟨0, by omega, by go_num, H0.out, HB.out⟩
  case round =>
    obtain ⟨k, hk, rfl, hown, hb⟩ := hrel
    clear H0 HB
    by_cases hlt : k < zs.length
    · obtain ⟨b, off, rfl, c0⟩ := HC.out k _ (List.getElem?_eq_getElem hlt)
      have hz := HZ.out k _ (List.getElem?_eq_getElem hlt)
      have g0 : wr.cell? ⟨b, off + k, none⟩ = some (.int .u8 (zs[k] : Int)) := (hb.cell (p := ⟨b, off + k, none⟩) (World.block_lt_of_cell? w _ c0)).trans c0
      obtain ⟨z, hzk⟩ : ∃ z, z = zs[k] := ⟨_, rfl⟩
      rw [← hzk] at g0 hz
      have HK := Lib.hid hzk
      have HO := Lib.hid hown
      clear c0 hzk hown
      go_wp2
      obtain ⟨wo, hwo⟩ : ∃ wo, wo = wr := ⟨_, rfl⟩
      subst hwo
      go_loopg [3, 5, 6] 8 (fun g s3 s5 s6 wx => ∃ t y : Nat, t + g = 8 ∧ s6 = .int .i64 t ∧ s5 = .int .i64 y ∧ Hid (y = z / 2 ^ t) ∧ y < 256 ∧ wx.ownsRow w.heap.size 3 1 s3 (8 * k + t) (bitVals zs (8 * k + t)) ∧ Below w.heap.size w wx)
      case atStart => exact ⟨0, z, rfl, by go_num, rfl, Lib.hid (by simp), hz, HO.out, hb⟩
      case round =>
        obtain ⟨t, y, ht, rfl, rfl, hy, hy2, hown, hb2⟩ := hrel
        clear HO g0
        obtain ⟨p, c, rfl⟩ := own_shape' hown
        by_cases h8 : t < 8
        · have HV := Lib.hid (bit_val zs k t z y (by rw [HK.out]; exact List.getElem?_eq_getElem hlt) h8 hy.out)
          have HO2 := Lib.hid (hown.alloc (.cells #[.int .i64 ((y : Int) % 2)] 3))
          have hs := hb2.size
          have hNN := HN.out
          have h8' : (t : Int) < 8 := by omega
          clear hown
          go_wp2_with ((at_builtin; refine wpList_append_own _ rfl _ _ 78 rfl w.heap.size 3 i0 (.int .i64 0) 1 8 Tryz.underlying78 hi hz0 hz1 hz2 rfl (by decide) _ _ _ rfl HO2.out ⟨_, 0, none⟩ 1 1 [.int .i64 ((y : Int) % 2)] rfl rfl (one_new' _ _ _) (fun u hu => by simp at hu; subst hu; rfl) (by unfold maxLen; omega) (by omega) (by simp; omega) ?_; intro v' w3 hown' hgrow hnil; clear hnil))
          have hgr : (wr.alloc (.cells #[.int .i64 ((y : Int) % 2)] 3)).grownBy w3 (Value.slice p (8 * k + t) c).ownBlock := hgrow
          have hBr : Below w.heap.size w w3 := (hb2.alloc hs _).grown hgr (by simp; omega) (fun q hq => (HO2.out.lt q hq).1)
          go_roundg (8 - (t + 1))
          case measure => omega
          case rel => exact ⟨t + 1, y / 2, by omega, by go_num, by go_num, Lib.hid (by rw [hy.out, Nat.div_div_eq_div_mul, ← Nat.pow_succ]), by omega, by rw [show 8 * k + (t + 1) = 8 * k + t + 1 by omega, bitVals_succ, HV.out]; exact hown', hBr⟩
        · have e8 : t = 8 := by omega
          subst e8
          have HO3 := Lib.hid hown
          clear hown h8
          go_wp2
          go_roundg (zs.length - (k + 1))
          case measure => omega
          case rel => exact ⟨k + 1, by omega, by go_num, by rw [show 8 * (k + 1) = 8 * k + 8 by omega]; exact HO3.out, hb2⟩
    · obtain rfl : k = zs.length := by omega
      obtain ⟨p, c, rfl⟩ := own_shape' hown
      have HO := Lib.hid hown
      have d1 : decide (zs.length < zs.length) = false := by simp
      clear hown hlt
      go_wp2
      go_loopg [3, 7] 32 (fun g s3 s7 wx => ∃ t : Nat, t + g = 32 ∧ s7 = .int .i64 t ∧ wx.ownsRow w.heap.size 3 1 s3 (8 * zs.length + t) (bitVals zs (8 * zs.length + t)) ∧ Below w.heap.size w wx)
      case atStart => exact ⟨0, by omega, by go_num, HO.out, hb⟩
      case round =>
        clear HO hb
        obtain ⟨t, ht, rfl, hown, hb⟩ := hrel
        by_cases h32 : t < 32
        · obtain ⟨p, c, rfl⟩ := own_shape' hown
          have HO2 := Lib.hid (hown.alloc (.cells #[.int .i64 0] 3))
          have HM := Lib.hid (show mbit zs (8 * zs.length + t) = false by
            unfold mbit
            rw [List.getD_eq_getElem?_getD, List.getElem?_eq_none (by omega)]
            exact Nat.zero_testBit _)
          have hs := hb.size
          have hNN := HN.out
          have h8' : (t : Int) < 32 := by omega
          clear hown
          go_wp2_with ((at_builtin; refine wpList_append_own _ rfl _ _ 78 rfl w.heap.size 3 i0 (.int .i64 0) 1 8 Tryz.underlying78 hi hz0 hz1 hz2 rfl (by decide) _ _ _ rfl HO2.out ⟨_, 0, none⟩ 1 1 [.int .i64 0] rfl rfl (one_new' _ _ _) (fun u hu => by simp at hu; subst hu; rfl) (by unfold maxLen; omega) (by omega) (by simp; omega) ?_; intro v' w3 hown' hgrow hnil; clear hnil))
          have hgr : (wr.alloc (.cells #[.int .i64 0] 3)).grownBy w3 (Value.slice p (8 * zs.length + t) c).ownBlock := hgrow
          have hBr : Below w.heap.size w w3 := (hb.alloc hs _).grown hgr (by simp; omega) (fun q hq => (HO2.out.lt q hq).1)
          go_roundg (32 - (t + 1))
          case measure => omega
          case rel => exact ⟨t + 1, by omega, by go_num, by rw [← Nat.add_assoc, bitVals_succ, HM.out]; exact hown', hBr⟩
        · obtain rfl : t = 32 := by omega
          obtain ⟨G, c, rfl, hG, hGl, hC⟩ := cells_of_own hown (by omega)
          obtain ⟨N, hNd⟩ : ∃ N, N = 8 * zs.length + 32 := ⟨_, rfl⟩
          rw [← hNd] at hC ⊢
          have HC3 := Lib.hid hC
          have HN2 := Lib.hid hNd
          have hN1 : 32 ≤ N := by omega
          have hN3 : N ≤ 160032 := by have := HN.out; omega
          clear hown hC h32 hNd
          go_wp2
          go_loopg [8] 32 (fun g s8 wx => ∃ t : Nat, t + g = 32 ∧ s8 = .int .i64 t ∧ Hid (Cells G N (fun j => if j < t then !mbit zs j else mbit zs j) wx) ∧ Below w.heap.size w wx)
          case atStart => exact ⟨0, by omega, by go_num, Lib.hid (HC3.out.congr fun j _ => by simp), hb⟩
          case round =>
            clear HC3 hb hGl
            obtain ⟨t, ht, rfl, hC, hb⟩ := hrel
            by_cases h32 : t < 32
            · have c0 := hC.out.cell t (by omega)
              rw [if_neg (Nat.lt_irrefl t)] at c0
              have f0 := hC.out.free t
              have hx := b2i_le (mbit zs t)
              have hx2 := b2i_not (mbit zs t)
              obtain ⟨x, hxd⟩ : ∃ x, x = b2i (mbit zs t) := ⟨_, rfl⟩
              rw [← hxd] at c0 hx hx2
              have HX := Lib.hid hx2
              have h8' : (t : Int) < 32 := by omega
              have hlt : (t : Int) < (N : Int) := by omega
              obtain ⟨hx0, hx1⟩ := hx
              have HCS := Lib.hid (hC.out.set (show t < N by omega) (!mbit zs t))
              clear hx2 hxd
              go_wp2
              have hcs := HCS.out
              rw [← HX.out] at hcs
              go_roundg (32 - (t + 1))
              case measure => omega
              case rel => exact ⟨t + 1, by omega, by go_num, Lib.hid (hcs.congr fun j _ => turned_succ zs t j), hb.setCell hG _⟩
            · obtain rfl : t = 32 := by omega
              have HC4 := Lib.hid (show Cells G N (rows zs 0) wr from hC.out)
              clear hC h32
              go_wp2
              have HP5 := Lib.hid (powers_new wr)
              have HC5 := Lib.hid (HC4.out.below (World.block_lt_of_cell? wr ⟨G, 0, none⟩ (HC4.out.cell 0 (by omega))) ((Below.refl _ wr).alloc (Nat.le_refl _) (.cells #[.int .i64 28, .int .i64 27, .int .i64 26, .int .i64 25, .int .i64 23, .int .i64 22, .int .i64 20, .int .i64 19, .int .i64 18, .int .i64 14, .int .i64 13, .int .i64 11, .int .i64 10, .int .i64 9, .int .i64 8, .int .i64 6, .int .i64 0] 3)))
              have HB5 := Lib.hid (hb.alloc hb.size (.cells #[.int .i64 28, .int .i64 27, .int .i64 26, .int .i64 25, .int .i64 23, .int .i64 22, .int .i64 20, .int .i64 19, .int .i64 18, .int .i64 14, .int .i64 13, .int .i64 11, .int .i64 10, .int .i64 9, .int .i64 8, .int .i64 6, .int .i64 0] 3))
              obtain ⟨P, hP⟩ : ∃ P, P = wr.heap.size := ⟨_, rfl⟩
              have hPG : G ≠ P := by have := World.block_lt_of_cell? wr ⟨G, 0, none⟩ (HC4.out.cell 0 (by omega)); simp at this; omega
              obtain ⟨W5, hW5⟩ : ∃ W5, W5 = wr.alloc (.cells #[.int .i64 28, .int .i64 27, .int .i64 26, .int .i64 25, .int .i64 23, .int .i64 22, .int .i64 20, .int .i64 19, .int .i64 18, .int .i64 14, .int .i64 13, .int .i64 11, .int .i64 10, .int .i64 9, .int .i64 8, .int .i64 6, .int .i64 0] 3) := ⟨_, rfl⟩
              rw [← hW5] at HP5 HC5 HB5 ⊢
              rw [← hP] at HP5 ⊢
              clear hW5 hP HC4 hb
              go_loopg [10] (8 * zs.length) (fun g s10 wx => ∃ i : Nat, i + g = 8 * zs.length ∧ s10 = .int .i64 i ∧ Hid (Cells G N (rows zs i) wx) ∧ Hid (Powers P wx) ∧ Hid (Below w.heap.size w wx))
              case atStart => exact ⟨0, by omega, by go_num, HC5, HP5, HB5⟩
              case round =>
                clear HC5 HP5 HB5
                obtain ⟨i, hi5, rfl, hC, hP, hB⟩ := hrel
                have hNN := HN2.out
                by_cases hend : i < 8 * zs.length
                · have c0 := hC.out.cell i (by omega)
                  have t1 : (i : Int) + 32 < (N : Int) := by omega
                  have t2 : (i : Int) < (N : Int) := by omega
                  cases hr : rows zs i i with
                  | false =>
                    have c1 : wr.cell? ⟨G, i, none⟩ = some (.int .i64 0) := by rw [c0, hr]; rfl
                    have HR := Lib.hid hr
                    clear c0 hr hNN
                    go_wp2
                    go_roundg (8 * zs.length - (i + 1))
                    case measure => omega
                    case rel => exact ⟨i + 1, by omega, by go_num, Lib.hid (hC.out.congr fun j _ => rows_still zs i j HR.out), hP, hB⟩
                  | true =>
                    have c1 : wr.cell? ⟨G, i, none⟩ = some (.int .i64 1) := by rw [c0, hr]; rfl
                    have HR := Lib.hid hr
                    clear c0 hr hNN
                    go_wp2
                    go_loopg [73] 17 (fun g s73 wx => ∃ q : Nat, q + g = 17 ∧ s73 = .int .i64 q ∧ Hid (Cells G N (part (rows zs i) i q) wx) ∧ Hid (Powers P wx) ∧ Hid (Below w.heap.size w wx))
                    case atStart => exact ⟨0, rfl, by go_num, Lib.hid (hC.out.congr fun j _ => part_zero _ _ _), hP, hB⟩
                    case round =>
                      clear hC hP hB c1
                      obtain ⟨q, hq, rfl, hC, hP, hB⟩ := hrel
                      by_cases h17 : q < 17
                      · obtain ⟨d, hd⟩ : ∃ d, offs[q]? = some d := ⟨_, List.getElem?_eq_getElem h17⟩
                        obtain ⟨_, _, hd4, hd32⟩ := offs_new q h17 d hd
                        have p0 := hP.out q d hd
                        have hNN := HN2.out
                        have heN : i + d < N := by omega
                        have c0 := hC.out.cell (i + d) heN
                        have f0 := hC.out.free (i + d)
                        have hx := b2i_le (part (rows zs i) i q (i + d))
                        have hx2 := b2i_not (part (rows zs i) i q (i + d))
                        obtain ⟨x, hxd⟩ : ∃ x, x = b2i (part (rows zs i) i q (i + d)) := ⟨_, rfl⟩
                        rw [← hxd] at c0 hx hx2
                        obtain ⟨y, hy⟩ : ∃ y : Int, y = 32 - (d : Int) := ⟨_, rfl⟩
                        rw [← hy] at p0
                        obtain ⟨e, he⟩ : ∃ e, e = i + d := ⟨_, rfl⟩
                        have HCS := Lib.hid (hC.out.set heN (!part (rows zs i) i q (i + d)))
                        have HPS := Lib.hid (hP.out.set (j := i + d) (v := .int .i64 (1 - x)) hPG)
                        have HBS := Lib.hid (hB.out.setCell (p := ⟨G, i + d, none⟩) hG (.int .i64 (1 - x)))
                        have HX := Lib.hid hx2
                        have HD := Lib.hid hd
                        rw [← he] at c0 f0
                        have hy0 : 0 ≤ y := by omega
                        have hy1 : y ≤ 28 := by omega
                        have hi16 : (i : Int) ≤ 160000 := by omega
                        have k0 : 0 ≤ (i : Int) + 32 - y := by omega
                        have k1 : (i : Int) + 32 - y < (N : Int) := by omega
                        have k2 : ((i : Int) + 32 - y).toNat = e := by omega
                        have HE := Lib.hid he
                        have h8' : (q : Int) < 17 := by omega
                        obtain ⟨hx0, hx1⟩ := hx
                        clear hx2 hxd hy he hd hd4 hd32 heN hNN
                        go_wp2
                        have he := HE.out
                        subst he
                        have hcs := HCS.out
                        rw [← HX.out] at hcs
                        go_roundg (17 - (q + 1))
                        case measure => omega
                        case rel => exact ⟨q + 1, by omega, by go_num, Lib.hid (hcs.congr fun j _ => part_succ (rows zs i) i q d j h17 HD.out), HPS, HBS⟩
                      · obtain rfl : q = 17 := by omega
                        clear h17
                        go_wp2
                        go_roundg (8 * zs.length - (i + 1))
                        case measure => omega
                        case rel => exact ⟨i + 1, by omega, by go_num, Lib.hid (hC.out.congr fun j _ => part_all zs i j HR.out), hP, hB⟩
                · obtain rfl : i = 8 * zs.length := by omega
                  have t1 : (N : Int) ≤ (8 * zs.length : Nat) + 32 := by omega
                  have HE := Lib.hid hNN
                  clear hend hP hNN
                  go_wp2
                  obtain ⟨K, hK⟩ : ∃ K, K = 8 * zs.length := ⟨_, rfl⟩
                  have HK := Lib.hid hK
                  rw [← hK] at hC HE
                  clear hK
                  go_loopg [13, 14, 15] 32 (fun g s13 s14 s15 wx => ∃ t m v q : Nat, t + g = 32 ∧ s15 = .int .i64 m ∧ s13 = .int .u32 v ∧ s14 = .int .u32 q ∧ Hid (m = K + t) ∧ Hid (v = gather (fun k => !rows zs K (K + k)) t) ∧ Hid (q = 2 ^ t % 4294967296) ∧ Hid (Cells G N (rows zs K) wx) ∧ Hid (Below w.heap.size w wx))
                  case atStart => exact ⟨0, K, 0, 1, rfl, by congr 1; have := HE.out; omega, rfl, rfl, Lib.hid rfl, Lib.hid rfl, Lib.hid rfl, hC, hB⟩
                  case round =>
                    clear hC hB t1
                    obtain ⟨t, m, v, q, ht, rfl, rfl, rfl, hm, hv, hq, hC, hB⟩ := hrel
                    by_cases h32 : t < 32
                    · have hNe := HE.out
                      have hme := hm.out
                      have hmN : m < N := by omega
                      have t1 : (m : Int) < (N : Int) := by omega
                      have c0 := hC.out.cell m hmN
                      have hvl := gather_lt (fun k => !rows zs K (K + k)) t
                      rw [← hv.out] at hvl
                      have hp : 2 ^ t ≤ 2 ^ 31 := Nat.pow_le_pow_right (by omega) (by omega)
                      have hqe : q = 2 ^ t := by rw [hq.out]; exact Nat.mod_eq_of_lt (by omega)
                      have hs : (v : Int) + (q : Int) < 4294967296 := by omega
                      obtain ⟨q2, hq2⟩ : ∃ q2, q2 = 2 * q % 4294967296 := ⟨_, rfl⟩
                      have hw : IntKind.u32.wrap ((q : Int) * 2) = (q2 : Int) := by
                        rw [IntKind.wrap_u32]
                        omega
                      have HQ := Lib.hid (show q2 = 2 ^ (t + 1) % 4294967296 by rw [hq2, hqe, Nat.pow_succ, Nat.mul_comm])
                      have HQ1 := Lib.hid hqe
                      have HM := Lib.hid hme
                      clear hNe hme hvl hp hqe hq2
                      cases hr : rows zs K m with
                      | false =>
                        have c1 : wr.cell? ⟨G, m, none⟩ = some (.int .i64 0) := by rw [c0, hr]; rfl
                        have HR := Lib.hid hr
                        clear c0 hr
                        go_wp2
                        go_roundg (32 - (t + 1))
                        case measure => omega
                        case rel => exact ⟨t + 1, m + 1, v + q, q2, by omega, by go_num, by go_num, rfl, Lib.hid (by have := HM.out; omega), Lib.hid (by rw [hv.out, HQ1.out]; exact (gather_yes _ t (by show (!rows zs K (K + t)) = true; rw [← HM.out, HR.out]; rfl)).symm), HQ, hC, hB⟩
                      | true =>
                        have c1 : wr.cell? ⟨G, m, none⟩ = some (.int .i64 1) := by rw [c0, hr]; rfl
                        have HR := Lib.hid hr
                        clear c0 hr
                        go_wp2
                        go_roundg (32 - (t + 1))
                        case measure => omega
                        case rel => exact ⟨t + 1, m + 1, v, q2, by omega, by go_num, rfl, rfl, Lib.hid (by have := HM.out; omega), Lib.hid (by rw [hv.out]; exact (gather_no _ t (by show (!rows zs K (K + t)) = false; rw [← HM.out, HR.out]; rfl)).symm), HQ, hC, hB⟩
                    · obtain rfl : t = 32 := by omega
                      have d2 : decide (m < N) = false := by
                        have := hm.out
                        have := HE.out
                        simp
                        omega
                      clear h32
                      go_wp2
                      go_ret
                      refine ⟨?_, hB.out⟩
                      have hsum : v = sum zs := by
                        have h1 := hv.out
                        have h2 := division zs
                        rw [← HK.out] at h2
                        rw [h1, h2]
                      rw [← hsum]
                      rfl
end Go.Proofs.YtajkldmpllphjaaGreatDoor
