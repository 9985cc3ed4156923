/-
  Texts of one claim, merged.
  RefFour: The contract of the document's own Four of chapter 2: four bytes in new memory, the lowest first. No conditions but that the number is one of 32 bits.
  FrameRef: The document's own raw bytes of chapter 9. No conditions but those typed.
  FrameRef2: The document's own Seal of chapter 9. No conditions but those typed.
  CrcSum: The contract of crc.Sum: of any bytes it is the sum, and memory is as it was. The conditions: the slice's cells are told; the two tables hold what the program's text lays there.
  FrameP1: The program's own raw bytes of chapter 9: what a row made with spare room is, append onto a slice that is full, withSum, raw. No conditions but those typed.
  FrameP2: The program's own raw bytes of chapter 9: withSum, raw. No conditions but those typed.
-/
import Derived.Test.YtajkldmpllphjaaDoorProg
import Derived.WalkKit
import Derived.Handy
import Derived.Outline
import Derived.Test.YtajkldmpllphjaaDoorPart04
import Derived.Test.YtajkldmpllphjaaDoorPart05
import Derived.Test.YtajkldmpllphjaaDoorRefCrc
import Derived.Test.YtajkldmpllphjaaDoorPart02
import Derived.Lib.AppendStr
import Derived.Deep.Cut
import Derived.Test.YtajkldmpllphjaaDoorPart01
import Derived.Deep.LoopGhost
import Derived.Laws.MakeOwn
namespace Go.Proofs.YtajkldmpllphjaaDoor
open Go.RowKit

end Go.Proofs.YtajkldmpllphjaaDoor
namespace Go.Proofs.YtajkldmpllphjaaDoor
open Go.RowKit FrameMath TextNat

/-- A row of bytes that the call itself made. -/
def Own8 (w : World) (B : Nat) (v : Value) (l : List Nat) : Prop := w.ownsRow B 5 1 v l.length (byteVals l)
theorem byteVals_app (a b : List Nat) : byteVals (a ++ b) = byteVals a ++ byteVals b := by unfold byteVals; rw [List.map_append]
theorem strCells_nats (s : ByteArray) : Lib.strCells s = byteVals (nats s) := by
  unfold Lib.strCells byteVals nats
  rw [List.map_map]
  rfl
theorem lies_news {w : World} {g : Nat} {l : List Value} {T : TypeId} (h : Lies w g l T) : ∀ (j : Nat) (u : Value), l[j]? = some u → w.cell? ((⟨g, 0, none⟩ : Addr).add j) = some u := fun j u hu => by
  rw [show (⟨g, 0, none⟩ : Addr).add j = ⟨g, j, none⟩ by unfold Addr.add; split <;> simp_all]
  exact h.cell hu
theorem lies_bytes {w : World} {g : Nat} {l : List Nat} {T : TypeId} (h : Lies w g (byteVals l) T) : ∀ (i z : Nat), l[i]? = some z → ∃ b off, (some ⟨g, 0, none⟩ : Option Addr) = some ⟨b, off, none⟩ ∧ w.cell? ⟨b, off + i, none⟩ = some (.int .u8 (z : Int)) := fun i z hz =>
  ⟨g, 0, rfl, by rw [Nat.zero_add]; exact h.cell (by unfold byteVals; rw [List.getElem?_map, hz]; rfl)⟩
theorem own_below {w w' : World} {B : Nat} {v : Value} {l : List Nat} (h : Own8 w B v l) (hB : B ≤ w.heap.size) (hg : w.grownBy w' v.ownBlock) : Below B w w' := by
  refine (Below.refl B w).grown hg hB (fun q hq => ?_)
  exact (OwnsM.of h).lt q hq |>.1
/-- append of bytes onto a row of one's own. -/
theorem app_bytes {ops : Array Oper} {rest : List Oper} {o : Oper} {ac : Act} {Q : Exit → Act → World → Prop} {w : World} (hgd : o.guard = none) (s x : Operand)
    (ho : o.op = .call { callee := .builtin .append, args := #[s, x], argTypes := #[54, 54] })
    (B : Nat) (v : Value) (l : List Nat) (hs : ac.eval s = v) (hown : Own8 w B v l) (ad : Addr) (m c : Nat) (news : List Nat) (hx : ac.eval x = .slice (some ad) m c) (hl : news.length = m)
    (hnews : ∀ (j : Nat) (u : Value), (byteVals news)[j]? = some u → w.cell? (ad.add j) = some u) (hz : l.length + m ≤ 1000000) (hB : B ≤ w.heap.size)
    (h : ∀ v' w', Own8 w' B v' (l ++ news) → Below B w w' → wpList Tryd.prog ops Q rest (ac.put o.dst v') w') : wpList Tryd.prog ops Q (o :: rest) ac w := by
  obtain ⟨ib, hib, hb0, hb1, hb2⟩ := info_parts info_byte
  refine wpList_append_own _ hgd s x 54 ho B 5 ib (.int .u8 0) 1 1 Tryd.underlying54 hib hb0 hb1 hb2 rfl (by decide) v l.length (byteVals l) hs hown ad m c (byteVals news) hx (by unfold byteVals; rw [List.length_map, hl]; omega) hnews (fun u hu => by
    unfold byteVals at hu
    obtain ⟨z, _, rfl⟩ := List.mem_map.1 hu
    rfl) (by unfold maxLen; omega) (by omega) hB ?_
  intro v' w' h1 h2 _
  refine h v' w' ?_ (own_below hown hB h2)
  show w'.ownsRow B 5 1 v' (l ++ news).length (byteVals (l ++ news))
  rw [byteVals_app, List.length_append, hl]
  exact h1
/-- append of a text's bytes onto a row of one's own. -/
theorem app_text {ops : Array Oper} {rest : List Oper} {o : Oper} {ac : Act} {Q : Exit → Act → World → Prop} {w : World} (hgd : o.guard = none) (s x : Operand)
    (ho : o.op = .call { callee := .builtin .append, args := #[s, x], argTypes := #[54, 9] })
    (B : Nat) (v : Value) (l : List Nat) (hs : ac.eval s = v) (hown : Own8 w B v l) (t : ByteArray) (hx : ac.eval x = .string t) (hz : l.length + t.size ≤ 1000000) (hB : B ≤ w.heap.size)
    (h : ∀ v' w', Own8 w' B v' (l ++ nats t) → Below B w w' → wpList Tryd.prog ops Q rest (ac.put o.dst v') w') : wpList Tryd.prog ops Q (o :: rest) ac w := by
  obtain ⟨ib, hib, hb0, hb1, hb2⟩ := info_parts info_byte
  refine Lib.wpList_append_own_string _ hgd s x 54 9 ho B 5 ib Tryd.underlying54 Tryd.underlying9 hib hb0 hb1 hb2 v l.length (byteVals l) hs hown t hx (by unfold maxLen; omega) (by omega) hB ?_
  intro v' w' h1 h2 _
  refine h v' w' ?_ (own_below hown hB h2)
  show w'.ownsRow B 5 1 v' (l ++ nats t).length (byteVals (l ++ nats t))
  rw [byteVals_app, List.length_append, nats_len, ← strCells_nats]
  exact h1
theorem Own8.made (w : World) : Own8 (w.alloc (.cells #[] 5)) w.heap.size (.slice (some ⟨w.heap.size, 0, none⟩) 0 0) [] := World.ownsRow_made (base := w.heap.size) (e := 5) (size := 1) w #[] 0 (Nat.le_refl _) (by simp) (by simp)
theorem Own8.below {w w' : World} {B : Nat} {v : Value} {l : List Nat} (h : Own8 w B v l) (hb : Below w.heap.size w w') : Own8 w' B v l := by
  refine ⟨h.1, ?_⟩
  rcases h.2 with h2 | ⟨g, cap, cur, h1, h2, h3, h4⟩
  · exact Or.inl h2
  · exact Or.inr ⟨g, cap, cur, h1, h2, (hb.block g (Array.getElem?_eq_some_iff.1 h3).1).trans h3, h4⟩
theorem Own8.cells {w : World} {B : Nat} {v : Value} {l : List Nat} (h : Own8 w B v l) (h0 : 0 < l.length) : ∃ g cap, v = .slice (some ⟨g, 0, none⟩) l.length cap ∧ B ≤ g ∧ ∀ (i z : Nat), l[i]? = some z → w.cell? ⟨g, i, none⟩ = some (.int .u8 (z : Int)) := by
  obtain ⟨g, cap, hv, hB, _, _, _, hc, _⟩ := (OwnsM.of h).open h0
  refine ⟨g, cap, hv, hB, fun i z hz => ?_⟩
  rw [hc i (List.getElem?_eq_some_iff.1 hz).1]
  unfold byteVals
  rw [List.getElem?_map, hz]
  rfl
end Go.Proofs.YtajkldmpllphjaaDoor
namespace Go.Proofs.YtajkldmpllphjaaDoor
open Go.RowKit FrameMath TextNat

/-- A row of bytes of one's own, the mark allowed. -/
def OwnM8 (w : World) (B : Nat) (v : Value) (l : List Nat) : Prop := OwnsM w B 5 v l.length (byteVals l)
theorem nibs_snoc {l : List Nat} {i z : Nat} (h : l[i]? = some z) : nibs (l.take (i + 1)) = nibs (l.take i) ++ [64 + z / 16, 64 + z % 16] := by
  rw [List.take_add_one, h, nibs_append]
  rfl
theorem ownm_below {w w' : World} {B : Nat} {v : Value} {l : List Nat} (h : OwnM8 w B v l) (hB : B ≤ w.heap.size) (hg : w.grownBy w' v.ownBlock) : Below B w w' :=
  (Below.refl B w).grown hg hB (fun q hq => (OwnsM.lt h q hq).1)
theorem two_at (w : World) (x y B : Nat) (hB : B = w.heap.size) : ∀ (j : Nat) (u : Value), (byteVals [x, y])[j]? = some u → (w.alloc (.cells #[.int .u8 (x : Int), .int .u8 (y : Int)] 5)).cell? ((⟨B, 0, none⟩ : Addr).add j) = some u := by
  subst hB
  exact lies_news (Lies.new w (byteVals [x, y]) 5)
theorem own_one (w : World) (x : Nat) : OwnM8 (w.alloc (.cells #[.int .u8 (x : Int)] 5)) w.heap.size (.slice (some ⟨w.heap.size, 0, none⟩) 1 1) [x] :=
  ⟨rfl, Or.inr ⟨w.heap.size, 1, #[.int .u8 (x : Int)], 0, 0, rfl, Nat.le_refl _, heap_alloc_new w _, Or.inl rfl, Nat.le_refl _, by unfold maxLen; decide, rfl, rfl⟩⟩
end Go.Proofs.YtajkldmpllphjaaDoor
namespace Go.Proofs.YtajkldmpllphjaaDoor
open Go.RowKit CrcMath

set_option maxHeartbeats 4000000 in
theorem sum_walk (zs : List Nat) (pp : Option Addr) (cap : Nat) (w : World) (hn : zs.length ≤ 1099511627776) (hz : Bytes w pp zs) (hT : Tables w) :
    Calls Tryd.prog 81 #[.slice pp zs.length cap] w fun e w' => e = .returned (.int .u32 (sum zs : Nat)) ∧ ∃ n, w' = w.drewN n := by
  have HZ := Lib.hid hz
  have HT := Lib.hid hT
  have HN := Lib.hid hn
  clear hz hT hn
  go_enter Tryd.func81, Tryd.ntmps81
  go_wp2
  go_loopg [3, 8] zs.length (fun g s3 s8 wx => ∃ k v n : Nat, k + g = zs.length ∧ s8 = .int .i64 k ∧ s3 = .int .u32 v ∧ Hid (v = sum (zs.take k)) ∧ wx = w.drewN n)
  case atStart => exact ⟨0, 0, 0, by omega, by go_num, by go_num, Lib.hid (by rw [List.take_zero]; rfl), rfl⟩
  case round =>
    obtain ⟨k, v, n, hk, rfl, rfl, hv, rfl⟩ := hrel
    by_cases hlt : k < zs.length
    · obtain ⟨hz, b, off, rfl, c0⟩ := HZ.out k _ (List.getElem?_eq_getElem hlt)
      obtain ⟨z, hzk⟩ : ∃ z, z = zs[k] := ⟨_, rfl⟩
      rw [← hzk] at c0 hz
      have HK := Lib.hid hzk
      have hNN := HN.out
      have HS := Lib.hid (step_walk v z (w.drewN n) (by rw [hv.out]; exact sum_lt _) hz (HT.out.drewN n))
      clear hzk
      go_wp2_with (go_at_call 83; refine HS.out.mono ?_; rintro e w3 ⟨rfl, m, rfl⟩)
      go_roundg (zs.length - (k + 1))
      case measure => omega
      case rel => exact ⟨k + 1, CrcMath.step v z, n + m, by omega, by go_num, rfl, Lib.hid (by rw [List.take_succ_eq_append_getElem hlt, sum_snoc, ← HK.out, hv.out]), rfl⟩
    · obtain rfl : k = zs.length := by omega
      have d1 : decide (zs.length < zs.length) = false := by simp
      clear hlt
      go_wp2
      go_ret
      have hv' := hv.out
      rw [List.take_length] at hv'
      exact ⟨by rw [hv']; rfl, _, rfl⟩
end Go.Proofs.YtajkldmpllphjaaDoor
namespace Go.Proofs.YtajkldmpllphjaaDoor
open Go.RowKit FrameMath TextNat CrcMath

/-- A store into a row of bytes of one's own. -/
theorem Own8.set {w : World} {B g cap n : Nat} {l : List Nat} (h : Own8 w B (.slice (some ⟨g, 0, none⟩) n cap) l) (j z : Nat) : Own8 (w.setCell ⟨g, j, none⟩ (.int .u8 (z : Int))) B (.slice (some ⟨g, 0, none⟩) n cap) (l.set j z) := by
  refine ⟨by unfold byteVals; rw [List.length_map, Nat.mul_one], ?_⟩
  rcases h.2 with ⟨h1, _⟩ | ⟨g', cap', cur, hv, hb, hg, hnc, hcm, hcs, ht⟩
  · cases h1
  · simp only [Value.slice.injEq, Option.some.injEq, Addr.mk.injEq] at hv
    obtain ⟨⟨rfl, _⟩, rfl, rfl⟩ := hv
    refine .inr ⟨g, cap, cur.setIfInBounds j (.int .u8 (z : Int)), by rw [List.length_set], hb, ?_, by rw [List.length_set]; exact hnc, hcm, by simpa using hcs, ?_⟩
    · rw [setCell_eq_setRow w g j cur 5 (0, 0) _ hg]
      exact setRow_heap w g cur _ 5 _ hg
    · rw [Array.toList_setIfInBounds, List.length_set, List.take_set, ht]
      unfold byteVals
      rw [List.map_set]
theorem own_store {B g j : Nat} {a w : World} {v : Value} (h : Below B a w) (hg : B ≤ g) : Below B a (w.setCell ⟨g, j, none⟩ v) :=
  ⟨h.os, h.tape, h.output, by have := h.size; simpa [World.setCell] using this, fun k hk => (Below.heap_setCell _ _ _ _ (by show k ≠ g; omega)).trans (h.block k hk)⟩
/-- A row of noughts with spare room. -/
theorem made8 (n c : Nat) (hc : c ≤ 1000000) (hn : n ≤ c) : ∀ u : World, (Instr.makeSlice 54 (.int .i64 (n : Int)) (.int .i64 (c : Int))).run Tryd.prog u = .ok (.slice (some ⟨u.heap.size, 0, none⟩) n c) (u.alloc (.cells (List.replicate c (Value.int .u8 0)).toArray 5)) := fun u => by
  obtain ⟨ii, hii, hi0, hi1, hi2⟩ := info_parts info_byte
  have h := run_make (P := Tryd.prog) u 54 5 ii (.int .u8 0) Tryd.underlying54 hii hi0 .i64 .i64 (n : Int) (c : Int) (by omega) (by omega) (by rw [hi2]; omega) (by omega)
  rw [h, hi1, Nat.mul_one, Int.toNat_natCast, Int.toNat_natCast]
  have e : madeCells (Value.int IntKind.u8 0).cells c = (List.replicate c (Value.int .u8 0)).toArray := by
    apply Array.toList_inj.1
    exact toList_madeCells_one _ _
  rw [e]
theorem byteVals_noughts (n : Nat) : byteVals (List.replicate n 0) = List.replicate n (Value.int .u8 0) := by
  unfold byteVals
  rw [List.map_replicate]
  rfl
theorem own_made8 (n c : Nat) (hc : c ≤ 1000000) (hn : n ≤ c) (u : World) : Own8 (u.alloc (.cells (List.replicate c (Value.int .u8 0)).toArray 5)) u.heap.size (.slice (some ⟨u.heap.size, 0, none⟩) n c) (List.replicate n 0) := by
  refine ⟨by rw [byteVals_noughts, List.length_replicate, List.length_replicate, Nat.mul_one], .inr ⟨u.heap.size, c, _, by rw [List.length_replicate], Nat.le_refl _, heap_alloc_new u _, by rw [List.length_replicate]; exact hn, by unfold maxLen; omega, by simp, ?_⟩⟩
  rw [List.length_replicate, Nat.mul_one, byteVals_noughts, List.take_replicate, Nat.min_eq_left hn]
/-- The cells of such a row: what they are, that they may be written. -/
theorem Own8.block {w : World} {B g cap n : Nat} {l : List Nat} (h : Own8 w B (.slice (some ⟨g, 0, none⟩) n cap) l) : n = l.length ∧ B ≤ g ∧ g < w.heap.size ∧ (∀ i z : Nat, l[i]? = some z → w.cell? ⟨g, i, none⟩ = some (.int .u8 (z : Int))) ∧ (∀ i : Nat, w.frozen? ⟨g, i, none⟩ = false) := by
  rcases h.2 with ⟨h1, _⟩ | ⟨g', cap', cur, hv, hb, hg, hnc, hcm, hcs, ht⟩
  · cases h1
  · simp only [Value.slice.injEq, Option.some.injEq, Addr.mk.injEq] at hv
    obtain ⟨⟨rfl, _⟩, rfl, rfl⟩ := hv
    refine ⟨rfl, hb, (Array.getElem?_eq_some_iff.1 hg).1, fun i z hz => ?_, fun i => by simp [World.frozen?, hg]⟩
    rw [cell_of_row w g i cur _ _ hg]
    have := congrArg (fun k : List Value => k[i]?) ht
    simp only [List.getElem?_take, Nat.mul_one, if_pos (List.getElem?_eq_some_iff.1 hz).1, Array.getElem?_toList] at this
    rw [this]
    unfold byteVals
    rw [List.getElem?_map, hz]
    rfl
theorem Own8.room {w : World} {B n cap : Nat} {p : Option Addr} {l : List Nat} (h : Own8 w B (.slice p n cap) l) : n = l.length ∧ l.length ≤ cap := by
  rcases h.2 with ⟨h1, h2⟩ | ⟨g', cap', cur, hv, hb, hg, hnc, hcm, hcs, ht⟩
  · simp only [Value.slice.injEq] at h1
    omega
  · simp only [Value.slice.injEq] at hv
    omega
theorem setRow_same {w : World} {g : Nat} {cs cs' : Array Value} {e : TypeId} (hg : w.heap[g]? = some (.cells cs e (0, 0))) (h : cs' = cs) : w.setRow g cs' = w := by
  subst h
  have : (w.setRow g cs').heap = w.heap := by
    apply Array.ext_getElem?
    intro i
    by_cases hi : i = g
    · subst hi
      rw [setRow_heap w i cs' cs' e (0, 0) hg, hg]
    · simp [World.setRow, Array.getElem?_modify, Ne.symm hi]
  unfold World.setRow at this ⊢
  simp only at this
  rw [this]
/-- append of a text's bytes onto a slice that is full: the elder row stays as it is. -/
theorem app_full {ops : Array Oper} {rest : List Oper} {o : Oper} {ac : Act} {Q : Exit → Act → World → Prop} {w : World} (hgd : o.guard = none) (sl x : Operand)
    (ho : o.op = .call { callee := .builtin .append, args := #[sl, x], argTypes := #[54, 9] })
    (B g cap n : Nat) (l : List Nat) (m : Nat) (hs : ac.eval sl = .slice (some ⟨g, 0, none⟩) m m) (hown : Own8 w B (.slice (some ⟨g, 0, none⟩) n cap) l) (hm : m ≤ l.length) (t : ByteArray) (hx : ac.eval x = .string t) (hz : l.length + t.size ≤ 1000000) (k : Nat) (hk : k = m + t.size)
    (h : ∀ pp c' w', (∀ i z : Nat, (l.take m ++ nats t)[i]? = some z → ∃ b off, pp = some ⟨b, off, none⟩ ∧ w'.cell? ⟨b, off + i, none⟩ = some (.int .u8 (z : Int))) → Below w.heap.size w w' → wpList Tryd.prog ops Q rest (ac.put o.dst (.slice pp k c')) w') : wpList Tryd.prog ops Q (o :: rest) ac w := by
  subst hk
  obtain ⟨ib, hib, hb0, hb1, hb2⟩ := info_parts info_byte
  have hcells := hown.block
  obtain ⟨hn, hBg, hgl, hc, _⟩ := hcells
  refine wpList_plain hgd fun K hK => ?_
  by_cases h0 : t.size = 0
  · rcases hown.2 with ⟨h1, _⟩ | ⟨g', cap', cur, hv, hb, hg, hnc, hcm, hcs, ht⟩
    · cases h1
    · simp only [Value.slice.injEq, Option.some.injEq, Addr.mk.injEq] at hv
      obtain ⟨⟨rfl, _⟩, _, _⟩ := hv
      have hst : Lib.strCells t = [] := List.eq_nil_of_length_eq_zero (by rw [Lib.strCells_length]; exact h0)
      have hr := Lib.run_append_room_string (P := Tryd.prog) w 54 9 o.type 5 ib Tryd.underlying54 Tryd.underlying9 hib hb1 g m m cur hg t (by omega) (by omega)
      rw [setRow_same hg (by rw [hst, h0]; simp)] at hr
      have hres := h (some ⟨g, 0, none⟩) m w (fun i z hi => by
        have hnt : nats t = [] := List.eq_nil_of_length_eq_zero (by rw [nats_len]; exact h0)
        rw [hnt, List.append_nil, List.getElem?_take] at hi
        split at hi
        · exact ⟨g, 0, rfl, by rw [Nat.zero_add]; exact hc i z hi⟩
        · cases hi) (Below.refl _ _)
      unfold Oper.wp execOp
      simp only [ho, resolve, invoke, builtin, Sem.run_bind, Sem.run_pure, Result.andThen_ok, List.map_toArray, List.map_cons, List.map_nil, hs, hx, hr]
      exact hK _ _ hres
  · have hr := Lib.run_append_grow_string (P := Tryd.prog) w 54 9 o.type 5 ib (.int .u8 0) Tryd.underlying54 Tryd.underlying9 hib hb0 ⟨g, 0, none⟩ m m (byteVals (l.take m)) (by unfold byteVals; rw [List.length_map, List.length_take, hb1]; omega) (fun j v hj => by
      unfold byteVals at hj
      rw [List.getElem?_map] at hj
      cases hz' : (l.take m)[j]? with
      | none => rw [hz'] at hj; cases hj
      | some z =>
        rw [hz'] at hj
        obtain rfl := Option.some.inj hj
        rw [List.getElem?_take] at hz'
        split at hz'
        · rw [show (⟨g, 0, none⟩ : Addr).add j = ⟨g, j, none⟩ by unfold Addr.add; split <;> simp_all]
          exact hc j z hz'
        · cases hz') t (by omega) (by omega) (by rw [hb2]; exact growslice_fits (by omega) (by omega))
    have hres := h (some ⟨w.heap.size, 0, none⟩) (grownCap w (m + t.size) m 5) (w.drew.alloc (.cells ((byteVals (l.take m)).toArray ++ (Lib.strCells t).toArray ++ Builtin.zeroCells (Value.int .u8 0).cells (grownCap w (m + t.size) m 5 - (m + t.size))) 5)) (fun i z hi => by
      refine ⟨w.heap.size, 0, rfl, ?_⟩
      rw [Nat.zero_add, cell_of_row _ w.heap.size i _ 5 (0, 0) (heap_alloc_new w.drew _)]
      have hb : (byteVals (l.take m ++ nats t))[i]? = some (.int .u8 (z : Int)) := by
        unfold byteVals
        rw [List.getElem?_map, hi]
        rfl
      rw [byteVals_app, ← strCells_nats] at hb
      rw [← Array.getElem?_toList]
      simp only [Array.toList_append]
      rw [List.getElem?_append_left (by
        have := (List.getElem?_eq_some_iff.1 hb).1
        simpa using this)]
      simpa using hb) ((Below.refl w.heap.size w).drew.alloc (Nat.le_refl _) _)
    unfold Oper.wp execOp
    simp only [ho, resolve, invoke, builtin, Sem.run_bind, Sem.run_pure, Result.andThen_ok, List.map_toArray, List.map_cons, List.map_nil, hs, hx, hr]
    exact hK _ _ hres
end Go.Proofs.YtajkldmpllphjaaDoor
namespace Go.Proofs.YtajkldmpllphjaaDoor
open Go.RowKit FrameMath TextNat CrcMath

set_option maxHeartbeats 4000000 in
theorem pFour (s a b c d : Nat) (w : World) (hs : s < 4294967296) (h : four s = [a, b, c, d]) :
    Calls Tryd.prog 80 #[.int .u32 (s : Int)] w fun e w' => e = .returned (.agg #[.int .u8 (a : Int), .int .u8 (b : Int), .int .u8 (c : Int), .int .u8 (d : Int)]) ∧ Below w.heap.size w w' := by
  unfold four at h
  simp only [List.cons.injEq, and_true] at h
  obtain ⟨h1, h2, h3, h4⟩ := h
  go_enter Tryd.func80, Tryd.ntmps80
  go_wp2
  go_returns
  refine ⟨?_, ((Below.refl _ _).alloc (Nat.le_refl _) _)⟩
  have e1 : (a : Int) = (s : Int) % 256 := by omega
  have e2 : (b : Int) = (s : Int) / 256 % 256 := by omega
  have e3 : (c : Int) = (s : Int) / 65536 % 256 := by omega
  have e4 : (d : Int) = (s : Int) / 16777216 := by omega
  rw [e1, e2, e3, e4]
set_option maxRecDepth 100000 in
set_option maxHeartbeats 8000000 in
theorem withSum_ok (l zs : List Nat) (B : Nat) (v : Value) (pp : Option Addr) (cap : Nat) (w : World) (hT : Tables w) (hown : Own8 w B v l) (hB : B ≤ w.heap.size) (hl : l.length ≤ 900000) (hzl : zs.length ≤ 900000) (hz : Bytes w pp zs) :
    Calls Tryd.prog 75 #[v, .slice pp zs.length cap] w fun e w' => (∃ v', e = .returned v' ∧ Own8 w' B v' (l ++ four (sum zs))) ∧ Below B w w' := by
  have HS := Lib.hid (sum_walk zs pp cap w (by omega) hz hT)
  have HO := Lib.hid hown
  obtain ⟨s, hs⟩ : ∃ s, s = sum zs := ⟨_, rfl⟩
  have hs32 : s < 4294967296 := by rw [hs]; exact sum_lt _
  rw [← hs] at HS ⊢
  obtain ⟨n, hn⟩ : ∃ n, n = zs.length := ⟨_, rfl⟩
  rw [← hn] at HS ⊢
  obtain ⟨a, b, c, d, h4⟩ : ∃ a b c d, four s = [a, b, c, d] := ⟨_, _, _, _, rfl⟩
  have H4 := Lib.hid h4
  have HF := Lib.hid (fun w1 => pFour s a b c d w1 hs32 h4)
  have HL := Lib.hid hl
  have HB := Lib.hid hB
  clear hT hown hz hs hn h4 hl hzl hB
  go_enter Tryd.func75, Tryd.ntmps75
  go_wp2_with fail
  refine HS.out.mono ?_
  rintro e w1 ⟨rfl, k, hk⟩
  have O1 := Lib.hid (show Own8 w1 B v l by rw [hk]; exact HO.out)
  have B1 := Lib.hid (show Below w.heap.size w w1 by rw [hk]; exact ⟨rfl, rfl, rfl, Nat.le_refl _, fun _ _ => rfl⟩)
  clear hk HO HS
  go_wp2_with fail
  refine (HF.out w1).mono ?_
  rintro e w2 ⟨rfl, hb⟩
  have O2 := Lib.hid (O1.out.below hb)
  have B2 := Lib.hid (B1.out.trans (hb.mono B1.out.size))
  clear hb O1 B1 HF
  have hb3 := (show Below w2.heap.size w2 (w2.alloc (.cells #[.int .u8 (a : Int), .int .u8 (b : Int), .int .u8 (c : Int), .int .u8 (d : Int)] 136)) from (Below.refl _ _).alloc (Nat.le_refl _) _)
  have O3 := Lib.hid (O2.out.below hb3)
  have B3 := Lib.hid (B2.out.trans (hb3.mono B2.out.size))
  have L3 := Lib.hid (Lies.new w2 (byteVals [a, b, c, d]) 136)
  clear hb3 O2 B2
  go_wp2_with (at_builtin; refine app_bytes rfl _ _ rfl B _ l rfl O3.out ⟨w2.heap.size, 0, none⟩ 4 4 [a, b, c, d] rfl rfl (lies_news L3.out) (by have := HL.out; simp; omega) (by have := HB.out; have := B3.out.size; omega) ?_; intro v5 w5 o5 b5)
  go_ret
  rw [← H4.out] at o5
  exact ⟨⟨_, rfl, o5⟩, (B3.out.mono HB.out).trans b5⟩
set_option maxRecDepth 100000 in
set_option maxHeartbeats 8000000 in
theorem raw_ok (s : ByteArray) (w : World) (hT : Tables w) (hs : s.size ≤ 10000) :
    Calls Tryd.prog 66 #[.string s] w fun e w' => (∃ v, e = .returned v ∧ Own8 w' w.heap.size v (rawF (nats s))) ∧ Below w.heap.size w w' := by
  obtain ⟨n, hn⟩ : ∃ n, n = s.size := ⟨_, rfl⟩
  obtain ⟨c, hc⟩ : ∃ c, c = 10 + n := ⟨_, rfl⟩
  obtain ⟨a, ha⟩ : ∃ a, a = n / 256 := ⟨_, rfl⟩
  obtain ⟨b, hb⟩ : ∃ b, b = n % 256 := ⟨_, rfl⟩
  have n1 : IntKind.u8.wrap ((n : Int) / 256) = (a : Int) := by rw [IntKind.wrap_u8]; omega
  have n2 : IntKind.u8.wrap (n : Int) = (b : Int) := by rw [IntKind.wrap_u8]; omega
  have n3 : IntKind.i64.wrap (10 + (n : Int)) = (c : Int) := by rw [IntKind.wrap_i64]; omega
  have HH := Lib.hid (show head s.size = [a, b] by unfold head; rw [ha, hb, hn])
  have HN := Lib.hid hn
  have e1 : (s.size : Int) = (n : Int) := by omega
  have hz : n ≤ 10000 := by omega
  have ha256 : a < 256 := by omega
  have hb256 : b < 256 := by omega
  have HT := Lib.hid hT
  have hmk : ∀ u : World, (Instr.makeSlice 54 (.int .i64 2) (.int .i64 (c : Int))).run Tryd.prog u = .ok (.slice (some ⟨u.heap.size, 0, none⟩) 2 c) (u.alloc (.cells (List.replicate c (Value.int .u8 0)).toArray 5)) := made8 2 c (by omega) (by omega)
  obtain ⟨Z, hZ⟩ : ∃ Z, Z = (List.replicate c (Value.int .u8 0)).toArray := ⟨_, rfl⟩
  have O1 := Lib.hid (show Own8 (w.alloc (.cells Z 5)) w.heap.size (.slice (some ⟨w.heap.size, 0, none⟩) 2 c) [0, 0] by rw [hZ]; exact own_made8 2 c (by omega) (by omega) w)
  have B1 := Lib.hid (show Below w.heap.size w (w.alloc (.cells Z 5)) from (Below.refl _ _).alloc (Nat.le_refl _) _)
  rw [← hZ] at hmk
  clear hn ha hb hT hZ hc
  go_enter Tryd.func66, Tryd.ntmps66
  go_upto_region 2 with fail
  obtain ⟨g, hg⟩ : ∃ g, g = w.heap.size := ⟨_, rfl⟩
  have HGg := Lib.hid hg
  rw [← hg] at O1 ⊢
  obtain ⟨w1, hw1⟩ : ∃ w1, w1 = w.alloc (.cells Z 5) := ⟨_, rfl⟩
  rw [← hw1] at O1 B1 ⊢
  clear hw1 hmk hg
  have O2 := Lib.hid ((O1.out.set 0 a).set 1 b)
  obtain ⟨-, -, hgl, hcl, hfr⟩ := O1.out.block
  have B2 := Lib.hid (own_store (own_store B1.out (g := g) (j := 0) (v := .int .u8 (a : Int)) (by have := HGg.out; omega)) (g := g) (j := 1) (v := .int .u8 (b : Int)) (by have := HGg.out; omega))
  have c0 := hcl 0 0 rfl
  have c1 := hcl 1 0 rfl
  have f0 := hfr 0
  have f1 := hfr 1
  clear hcl hfr O1 B1
  go_upto_region 3 with fail
  obtain ⟨w2, hw2⟩ : ∃ w2, w2 = (w1.setCell ⟨g, 0, none⟩ (.int .u8 (a : Int))).setCell ⟨g, 1, none⟩ (.int .u8 (b : Int)) := ⟨_, rfl⟩
  rw [← hw2] at O2 B2 ⊢
  clear hw2 c0 c1 f0 f1 hgl
  replace O2 := Lib.hid (show Own8 w2 w.heap.size (.slice (some ⟨g, 0, none⟩) 2 c) [a, b] by rw [HGg.out.symm]; exact O2.out)
  have HBY := Lib.hid (show Bytes w2 (some ⟨g, 0, none⟩) [a, b] from fun i z hi => by
    refine ⟨?_, g, 0, rfl, by rw [Nat.zero_add]; exact O2.out.block.2.2.2.1 i z hi⟩
    have hm := List.mem_of_getElem? hi
    simp at hm
    omega)
  go_wp2_with fail
  refine (withSum_ok [a, b] [a, b] w.heap.size _ _ c w2 (HT.out.grown B2.out) O2.out B2.out.size (by simp) (by simp) HBY.out).mono ?_
  rintro e w3 ⟨⟨v3, rfl, o3⟩, b3⟩
  have O3 := Lib.hid o3
  have B3 := Lib.hid (B2.out.trans b3)
  clear o3 b3 O2 B2 HBY
  go_upto_region 5 with (at_builtin; refine app_text rfl _ _ rfl w.heap.size _ ([a, b] ++ four (sum [a, b])) rfl O3.out s rfl (by simp [four]; omega) B3.out.size ?_; intro v4 w4 o4 b4)
  have O4 := Lib.hid o4
  have B4 := Lib.hid (B3.out.trans b4)
  clear o4 b4 O3 B3
  obtain ⟨g4, cap4, rfl, hg4, _⟩ := O4.out.cells (by simp)
  obtain ⟨R, hR⟩ : ∃ R, R = [a, b] ++ four (sum [a, b]) ++ nats s := ⟨_, rfl⟩
  have HR := Lib.hid hR
  have hRl : R.length = 6 + n := by rw [hR]; have := nats_len s; have := HN.out; simp [four]; omega
  have hcap : 2 ≤ cap4 := by
    have := O4.out.room
    rw [← hR, hRl] at this
    omega
  have hcap' : (2 : Int) ≤ (cap4 : Int) := by omega
  rw [← hR] at O4 ⊢
  obtain ⟨m4, hm4⟩ : ∃ m4, m4 = 6 + n := ⟨_, rfl⟩
  rw [hRl, ← hm4] at O4 ⊢
  clear hR
  go_upto_region 6 with fail
  obtain ⟨LS, hLS⟩ : ∃ LS, LS = Value.slice (some ⟨g4, 0, none⟩) 2 2 := ⟨_, rfl⟩
  rw [← hLS]
  have HLS := Lib.hid hLS
  have HR2 := Lib.hid (show 2 ≤ R.length ∧ R.length = 6 + n by omega)
  obtain ⟨ZS, hZS⟩ : ∃ ZS, ZS = R.take 2 ++ nats s := ⟨_, rfl⟩
  have hzl : ZS.length = 2 + s.size := by rw [hZS, List.length_append, List.length_take, nats_len]; omega
  have hzo : ∀ z ∈ ZS, z < 256 := by
    intro z hz'
    rw [hZS, HR.out] at hz'
    rcases List.mem_append.1 hz' with h | h
    · simp at h
      omega
    · exact nats_lt s z h
  have HZO := Lib.hid hzo
  have HZS := Lib.hid hZS
  have HZL := Lib.hid hzl
  clear hZS hzl hzo hLS hRl hm4 hcap hcap' hg4
  go_wp2_with (at_builtin; refine app_full rfl _ _ rfl w.heap.size g4 cap4 m4 R 2 HLS.out O4.out HR2.out.1 s rfl (by have := HR2.out.2; omega) ZS.length HZL.out ?_; intro p5 c5 w5 h5 b5)
  have BY5 := Lib.hid (show Bytes w5 p5 ZS from fun i z hi => ⟨HZO.out z (List.mem_of_getElem? hi), by rw [HZS.out] at hi; exact h5 i z hi⟩)
  have O5 := Lib.hid (O4.out.below b5)
  have B5 := Lib.hid (B4.out.trans (b5.mono B4.out.size))
  clear h5 b5 O4 B4
  go_wp2_with fail
  refine (withSum_ok R ZS w.heap.size _ p5 c5 w5 (HT.out.grown B5.out) O5.out B5.out.size (by have := HR2.out.2; omega) (by have := HZL.out; omega) BY5.out).mono ?_
  rintro e w6 ⟨⟨v6, rfl, o6⟩, b6⟩
  have O6 := Lib.hid o6
  have B6 := Lib.hid (B5.out.trans b6)
  clear o6 b6 O5 B5 BY5
  go_wp2
  go_ret
  have hraw : R ++ four (sum ZS) = rawF (nats s) := by
    unfold rawF
    rw [nats_len, HH.out, HZS.out, HR.out]
    simp
  have := O6.out
  rw [hraw] at this
  exact ⟨⟨_, rfl, this⟩, B6.out⟩
end Go.Proofs.YtajkldmpllphjaaDoor
