/-
  The document's own raw bytes of chapter 9. No conditions but those typed.
-/
import Derived.Test.YtjijlfohlmhlkaaDoorFrameLaws
import Derived.Test.YtjijlfohlmhlkaaDoorFrameRow
import Derived.Test.YtjijlfohlmhlkaaDoorRefCrc
import Derived.Test.YtjijlfohlmhlkaaDoorRefFour
import Derived.Test.YtjijlfohlmhlkaaDoorLies
import Derived.Lib.AppendStr
import Derived.Deep.Cut
namespace Go.Proofs.YtjijlfohlmhlkaaDoor
open Go.RowKit FrameMath TextNat

/-- A row of bytes that the call itself made. -/
def Own8 (w : World) (B : Nat) (v : Value) (l : List Nat) : Prop := w.ownsRow B 5 1 v l.length (byteVals l)
theorem byteVals_app (a b : List Nat) : byteVals (a ++ b) = byteVals a ++ byteVals b := by unfold byteVals; rw [List.map_append]
theorem strCells_nats (s : ByteArray) : Lib.strCells s = byteVals (nats s) := by
  unfold Lib.strCells byteVals nats
  rw [List.map_map]
  rfl
theorem lies_news {w : World} {g : Nat} {l : List Value} {T : TypeId} (h : Lies w g l T) : ∀ (j : Nat) (u : Value), l[j]? = some u → w.cell? ((⟨g, 0, none⟩ : Addr).add j) = some u := fun j u hu => by
  rw [show (⟨g, 0, none⟩ : Addr).add j = ⟨g, j, none⟩ by unfold Addr.add; split <;> simp_all]
  exact h.cell hu
theorem lies_bytes {w : World} {g : Nat} {l : List Nat} {T : TypeId} (h : Lies w g (byteVals l) T) : ∀ (i z : Nat), l[i]? = some z → ∃ b off, (some ⟨g, 0, none⟩ : Option Addr) = some ⟨b, off, none⟩ ∧ w.cell? ⟨b, off + i, none⟩ = some (.int .u8 (z : Int)) := fun i z hz =>
  ⟨g, 0, rfl, by rw [Nat.zero_add]; exact h.cell (by unfold byteVals; rw [List.getElem?_map, hz]; rfl)⟩
theorem own_below {w w' : World} {B : Nat} {v : Value} {l : List Nat} (h : Own8 w B v l) (hB : B ≤ w.heap.size) (hg : w.grownBy w' v.ownBlock) : Below B w w' := by
  refine (Below.refl B w).grown hg hB (fun q hq => ?_)
  exact (OwnsM.of h).lt q hq |>.1
/-- append of bytes onto a row of one's own. -/
theorem app_bytes {ops : Array Oper} {rest : List Oper} {o : Oper} {ac : Act} {Q : Exit → Act → World → Prop} {w : World} (hgd : o.guard = none) (s x : Operand)
    (ho : o.op = .call { callee := .builtin .append, args := #[s, x], argTypes := #[36, 36] })
    (B : Nat) (v : Value) (l : List Nat) (hs : ac.eval s = v) (hown : Own8 w B v l) (ad : Addr) (m c : Nat) (news : List Nat) (hx : ac.eval x = .slice (some ad) m c) (hl : news.length = m)
    (hnews : ∀ (j : Nat) (u : Value), (byteVals news)[j]? = some u → w.cell? (ad.add j) = some u) (hz : l.length + m ≤ 1000000) (hB : B ≤ w.heap.size)
    (h : ∀ v' w', Own8 w' B v' (l ++ news) → Below B w w' → wpList Tryd.prog ops Q rest (ac.put o.dst v') w') : wpList Tryd.prog ops Q (o :: rest) ac w := by
  obtain ⟨ib, hib, hb0, hb1, hb2⟩ := info_parts info_byte
  refine wpList_append_own _ hgd s x 36 ho B 5 ib (.int .u8 0) 1 1 Tryd.underlying36 hib hb0 hb1 hb2 rfl (by decide) v l.length (byteVals l) hs hown ad m c (byteVals news) hx (by unfold byteVals; rw [List.length_map, hl]; omega) hnews (fun u hu => by
    unfold byteVals at hu
    obtain ⟨z, _, rfl⟩ := List.mem_map.1 hu
    rfl) (by unfold maxLen; omega) (by omega) hB ?_
  intro v' w' h1 h2 _
  refine h v' w' ?_ (own_below hown hB h2)
  show w'.ownsRow B 5 1 v' (l ++ news).length (byteVals (l ++ news))
  rw [byteVals_app, List.length_append, hl]
  exact h1
/-- append of a text's bytes onto a row of one's own. -/
theorem app_text {ops : Array Oper} {rest : List Oper} {o : Oper} {ac : Act} {Q : Exit → Act → World → Prop} {w : World} (hgd : o.guard = none) (s x : Operand)
    (ho : o.op = .call { callee := .builtin .append, args := #[s, x], argTypes := #[36, 9] })
    (B : Nat) (v : Value) (l : List Nat) (hs : ac.eval s = v) (hown : Own8 w B v l) (t : ByteArray) (hx : ac.eval x = .string t) (hz : l.length + t.size ≤ 1000000) (hB : B ≤ w.heap.size)
    (h : ∀ v' w', Own8 w' B v' (l ++ nats t) → Below B w w' → wpList Tryd.prog ops Q rest (ac.put o.dst v') w') : wpList Tryd.prog ops Q (o :: rest) ac w := by
  obtain ⟨ib, hib, hb0, hb1, hb2⟩ := info_parts info_byte
  refine Lib.wpList_append_own_string _ hgd s x 36 9 ho B 5 ib Tryd.underlying36 Tryd.underlying9 hib hb0 hb1 hb2 v l.length (byteVals l) hs hown t hx (by unfold maxLen; omega) (by omega) hB ?_
  intro v' w' h1 h2 _
  refine h v' w' ?_ (own_below hown hB h2)
  show w'.ownsRow B 5 1 v' (l ++ nats t).length (byteVals (l ++ nats t))
  rw [byteVals_app, List.length_append, nats_len, ← strCells_nats]
  exact h1
theorem Own8.made (w : World) : Own8 (w.alloc (.cells #[] 5)) w.heap.size (.slice (some ⟨w.heap.size, 0, none⟩) 0 0) [] := World.ownsRow_made (base := w.heap.size) (e := 5) (size := 1) w #[] 0 (Nat.le_refl _) (by simp) (by simp)
theorem Own8.below {w w' : World} {B : Nat} {v : Value} {l : List Nat} (h : Own8 w B v l) (hb : Below w.heap.size w w') : Own8 w' B v l := by
  refine ⟨h.1, ?_⟩
  rcases h.2 with h2 | ⟨g, cap, cur, h1, h2, h3, h4⟩
  · exact Or.inl h2
  · exact Or.inr ⟨g, cap, cur, h1, h2, (hb.block g (Array.getElem?_eq_some_iff.1 h3).1).trans h3, h4⟩
theorem Own8.cells {w : World} {B : Nat} {v : Value} {l : List Nat} (h : Own8 w B v l) (h0 : 0 < l.length) : ∃ g cap, v = .slice (some ⟨g, 0, none⟩) l.length cap ∧ B ≤ g ∧ ∀ (i z : Nat), l[i]? = some z → w.cell? ⟨g, i, none⟩ = some (.int .u8 (z : Int)) := by
  obtain ⟨g, cap, hv, hB, _, _, _, hc, _⟩ := (OwnsM.of h).open h0
  refine ⟨g, cap, hv, hB, fun i z hz => ?_⟩
  rw [hc i (List.getElem?_eq_some_iff.1 hz).1]
  unfold byteVals
  rw [List.getElem?_map, hz]
  rfl
set_option maxRecDepth 100000 in
set_option maxHeartbeats 8000000 in
theorem refRaw (s : ByteArray) (w : World) (hs : s.size ≤ 10000) :
    Calls Tryd.prog 22 #[.string s] w fun e w' => (∃ v B, e = .returned v ∧ w.heap.size ≤ B ∧ Own8 w' B v (rawF (nats s))) ∧ Below w.heap.size w w' := by
  obtain ⟨n, hn⟩ : ∃ n, n = s.size := ⟨_, rfl⟩
  obtain ⟨a, ha⟩ : ∃ a, a = n / 256 := ⟨_, rfl⟩
  obtain ⟨b, hb⟩ : ∃ b, b = n % 256 := ⟨_, rfl⟩
  have n1 : IntKind.u8.wrap ((n : Int) / 256) = (a : Int) := by rw [IntKind.wrap_u8]; omega
  have n2 : IntKind.u8.wrap ((n : Int) % 256) = (b : Int) := by rw [IntKind.wrap_u8]; omega
  have HH := Lib.hid (show head s.size = [a, b] by unfold head; rw [ha, hb, hn])
  have HN := Lib.hid hn
  have e1 : (s.size : Int) = (n : Int) := by omega
  have hz : n ≤ 10000 := by omega
  have ha256 : a < 256 := by omega
  have hb256 : b < 256 := by omega
  clear hn ha hb
  have L1 := Lib.hid (Lies.new w (byteVals [a, b]) 5)
  have B1 := Lib.hid (show Below w.heap.size w (w.alloc (.cells #[.int .u8 (a : Int), .int .u8 (b : Int)] 5)) from (Below.refl _ _).alloc (Nat.le_refl _) _)
  have S1 := Lib.hid (show (w.alloc (.cells #[.int .u8 (a : Int), .int .u8 (b : Int)] 5)).heap.size = w.heap.size + 1 by simp)
  go_enter Tryd.func22, Tryd.ntmps22
  go_upto_region 2 with fail
  obtain ⟨w1, hw1⟩ : ∃ w1, w1 = w.alloc (.cells #[.int .u8 (a : Int), .int .u8 (b : Int)] 5) := ⟨_, rfl⟩
  have L1' : Lies w1 w.heap.size (byteVals [a, b]) 5 := by rw [hw1]; exact L1.out
  rw [← hw1] at B1 S1 ⊢
  clear hw1 L1
  have L2 := Lib.hid (L1'.below ((Below.refl w1.heap.size w1).alloc (Nat.le_refl _) (.cells #[] 5)))
  have O2 := Lib.hid (Own8.made w1)
  have B2 := Lib.hid (show Below w1.heap.size w1 (w1.alloc (.cells #[] 5)) from (Below.refl _ _).alloc (Nat.le_refl _) _)
  go_upto_region 3 with (at_builtin; refine app_bytes rfl _ _ rfl w1.heap.size _ [] rfl O2.out ⟨w.heap.size, 0, none⟩ 2 2 [a, b] rfl rfl (lies_news L2.out) (by simp) B2.out.size ?_; intro v2 w2 o2 b2)
  have O3 := Lib.hid o2
  have B3 := Lib.hid (B2.out.trans (b2.mono (Nat.le_refl _)))
  have L3 := Lib.hid (L1'.below B3.out)
  clear o2 b2 L2 O2 B2
  go_wp2_with fail
  refine (refSum [a, b] (some ⟨w.heap.size, 0, none⟩) 2 w2 (by simp) (fun i z hi => by
    have := List.mem_of_getElem? hi
    simp at this
    omega) (lies_bytes L3.out)).mono ?_
  rintro e w3 ⟨rfl, hb⟩
  have B4 := Lib.hid (B3.out.trans (hb.mono B3.out.size))
  have O4 := Lib.hid (O3.out.below hb)
  clear hb O3 B3 L3
  obtain ⟨h, hh⟩ : ∃ h, h = CrcMath.sum [a, b] := ⟨_, rfl⟩
  have hh32 : h < 4294967296 := by rw [hh]; exact CrcMath.sum_lt _
  have HSM := Lib.hid hh
  rw [← hh]
  clear hh
  go_wp2_with fail
  refine (refFour h w3 hh32).mono ?_
  rintro e w4 ⟨rfl, hw4⟩
  have L5 := Lib.hid (show Lies w4 w3.heap.size (byteVals (four h)) 5 by rw [hw4]; exact Lies.new w3 _ _)
  have b5 : Below w3.heap.size w3 w4 := by rw [hw4]; exact (Below.refl _ _).alloc (Nat.le_refl _) _
  have O5 := Lib.hid (O4.out.below b5)
  have B5 := Lib.hid (B4.out.trans (b5.mono B4.out.size))
  clear hw4 b5 O4 B4
  go_upto_region 4 with (at_builtin; refine app_bytes rfl _ _ rfl w1.heap.size _ ([] ++ [a, b]) rfl O5.out ⟨w3.heap.size, 0, none⟩ 4 4 (four h) rfl rfl (lies_news L5.out) (by simp) B5.out.size ?_; intro v5 w5 o5 b5)
  have O6 := Lib.hid o5
  have B6 := Lib.hid (B5.out.trans (b5.mono (Nat.le_refl _)))
  clear o5 b5 O5 B5 L5
  go_upto_region 5 with (at_builtin; refine app_text rfl _ _ rfl w1.heap.size _ ([] ++ [a, b] ++ four h) rfl O6.out s rfl (by simp [four]; omega) B6.out.size ?_; intro v6 w6 o6 b6)
  have O7 := Lib.hid o6
  have B7 := Lib.hid (B6.out.trans (b6.mono (Nat.le_refl _)))
  have L7 := Lib.hid (L1'.below B7.out)
  clear o6 b6 O6 B6
  have HNN := Lib.hid (nats_len s)
  have O8 := Lib.hid (Own8.made w6)
  have c8 := (show Below w6.heap.size w6 (w6.alloc (.cells #[] 5)) from (Below.refl _ _).alloc (Nat.le_refl _) _)
  have L8 := Lib.hid (L7.out.below (c8.mono (Nat.le_refl _)))
  have C8 := Lib.hid c8
  clear c8
  go_upto_region 6 with (first
    | (at_builtin; refine app_bytes rfl _ _ rfl w6.heap.size _ [] rfl O8.out ⟨w.heap.size, 0, none⟩ 2 2 [a, b] rfl rfl (lies_news L8.out) (by simp) C8.out.size ?_; intro v8 w8 o8 b8; have C9 := Lib.hid (C8.out.trans (b8.mono (Nat.le_refl _))); replace o8 := Lib.hid o8; clear b8)
    | (at_builtin; refine app_text rfl _ _ rfl w6.heap.size _ ([] ++ [a, b]) rfl o8.out s rfl (by simp; omega) C9.out.size ?_; intro v9 w9 o9 b9))
  have C10 := Lib.hid (C9.out.trans (b9.mono (Nat.le_refl _)))
  have O10 := Lib.hid (O7.out.below C10.out)
  have B10 := Lib.hid (B7.out.trans (C10.out.mono B7.out.size))
  obtain ⟨g9, cap9, rfl, hg9, hc9⟩ := o9.cells (by simp)
  clear b9 C9 C8 C10 O8 o8 o9 L8 L7 O7 B7
  have hb9 : ∀ b' ∈ ([] ++ [a, b] ++ nats s : List Nat), b' < 256 := by
    intro b' hb'
    rcases List.mem_append.1 hb' with h | h
    · simp at h; omega
    · exact nats_lt s b' h
  have hl9 : ([] ++ [a, b] ++ nats s : List Nat).length ≤ 20000 := by simp [HNN.out]; omega
  go_wp2_with fail
  refine (refSum ([] ++ [a, b] ++ nats s) (some ⟨g9, 0, none⟩) cap9 w9 hl9 (fun i z hi => hb9 z (List.mem_of_getElem? hi)) (fun i z hi => ⟨g9, 0, rfl, by rw [Nat.zero_add]; exact hc9 i z hi⟩)).mono ?_
  rintro e w10 ⟨rfl, hb⟩
  have B11 := Lib.hid (B10.out.trans (hb.mono B10.out.size))
  have O11 := Lib.hid (O10.out.below hb)
  clear hb O10 B10 hc9 hb9 hl9
  obtain ⟨k, hk⟩ : ∃ k, k = CrcMath.sum ([] ++ [a, b] ++ nats s) := ⟨_, rfl⟩
  have hk32 : k < 4294967296 := by rw [hk]; exact CrcMath.sum_lt _
  have HKM := Lib.hid hk
  rw [← hk]
  clear hk
  go_wp2_with fail
  refine (refFour k w10 hk32).mono ?_
  rintro e w11 ⟨rfl, hw11⟩
  have L12 := Lib.hid (show Lies w11 w10.heap.size (byteVals (four k)) 5 by rw [hw11]; exact Lies.new w10 _ _)
  have b12 : Below w10.heap.size w10 w11 := by rw [hw11]; exact (Below.refl _ _).alloc (Nat.le_refl _) _
  have O12 := Lib.hid (O11.out.below b12)
  have B12 := Lib.hid (B11.out.trans (b12.mono B11.out.size))
  clear hw11 b12 O11 B11
  go_wp2_with (at_builtin; refine app_bytes rfl _ _ rfl w1.heap.size _ ([] ++ [a, b] ++ four h ++ nats s) rfl O12.out ⟨w10.heap.size, 0, none⟩ 4 4 (four k) rfl rfl (lies_news L12.out) (by simp [four, HNN.out]; omega) B12.out.size ?_; intro v13 w13 o13 b13)
  go_ret
  have hraw : [] ++ [a, b] ++ four h ++ nats s ++ four k = rawF (nats s) := by
    unfold rawF
    rw [HNN.out, HH.out, ← HSM.out]
    rw [HKM.out]
    simp [List.append_assoc]
  rw [hraw] at o13
  have hws : w.heap.size ≤ w1.heap.size := by rw [S1.out]; omega
  exact ⟨⟨_, _, rfl, hws, o13⟩, B1.out.trans ((B12.out.trans b13).mono hws)⟩
end Go.Proofs.YtjijlfohlmhlkaaDoor
