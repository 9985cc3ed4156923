/-
  Texts of one claim, merged.
  RefFour: The contract of the document's own Four of chapter 2: four bytes in new memory, the lowest first. No conditions but that the number is one of 32 bits.
  FrameRef: The document's own raw bytes of chapter 9. No conditions but those typed.
  FrameRef2: The document's own Seal of chapter 9. No conditions but those typed.
  CrcSum: The contract of crc.Sum: of any bytes it is the sum, and memory is as it was. The conditions: the slice's cells are told; the two tables hold what the program's text lays there.
  FrameP1: The program's own raw bytes of chapter 9: what a row made with spare room is, append onto a slice that is full, withSum, raw. No conditions but those typed.
  FrameP2: The program's own raw bytes of chapter 9: withSum, raw. No conditions but those typed.
-/
import Derived.Test.YtajkldmpllphjaaGreatDoorProg
import Derived.WalkKit
import Derived.Handy
import Derived.Outline
import Derived.Test.YtajkldmpllphjaaGreatDoorPart06
import Derived.Test.YtajkldmpllphjaaGreatDoorPart07
import Derived.Test.YtajkldmpllphjaaGreatDoorRefCrc
import Derived.Test.YtajkldmpllphjaaGreatDoorPart02
import Derived.Lib.AppendStr
import Derived.Deep.Cut
import Derived.Test.YtajkldmpllphjaaGreatDoorPart01
import Derived.Deep.LoopGhost
import Derived.Laws.MakeOwn
namespace Go.Proofs.YtajkldmpllphjaaGreatDoor
open Go.RowKit

theorem refFour (s : Nat) (w : World) (hs : s < 4294967296) :
    Calls Tryz.prog 71 #[.int .u32 (s : Int)] w fun e w' => e = .returned (.slice (some ⟨w.heap.size, 0, none⟩) 4 4) ∧ w' = w.alloc (.cells #[.int .u8 ((s : Int) % 256), .int .u8 ((s : Int) / 256 % 256), .int .u8 ((s : Int) / 65536 % 256), .int .u8 ((s : Int) / 16777216)] 5) := by
  have h0 : (0 : Int) ≤ (s : Int) := by omega
  have h1 : (s : Int) ≤ 4294967295 := by omega
  go_enter Tryz.func71, Tryz.ntmps71
  go_wp2
  go_ret
  exact ⟨rfl, rfl⟩
end Go.Proofs.YtajkldmpllphjaaGreatDoor
namespace Go.Proofs.YtajkldmpllphjaaGreatDoor
open Go.RowKit FrameMath TextNat

/-- A row of bytes that the call itself made. -/
def Own8 (w : World) (B : Nat) (v : Value) (l : List Nat) : Prop := w.ownsRow B 5 1 v l.length (byteVals l)
theorem byteVals_app (a b : List Nat) : byteVals (a ++ b) = byteVals a ++ byteVals b := by unfold byteVals; rw [List.map_append]
theorem strCells_nats (s : ByteArray) : Lib.strCells s = byteVals (nats s) := by
  unfold Lib.strCells byteVals nats
  rw [List.map_map]
  rfl
theorem lies_news {w : World} {g : Nat} {l : List Value} {T : TypeId} (h : Lies w g l T) : ∀ (j : Nat) (u : Value), l[j]? = some u → w.cell? ((⟨g, 0, none⟩ : Addr).add j) = some u := fun j u hu => by
  rw [show (⟨g, 0, none⟩ : Addr).add j = ⟨g, j, none⟩ by unfold Addr.add; split <;> simp_all]
  exact h.cell hu
theorem lies_bytes {w : World} {g : Nat} {l : List Nat} {T : TypeId} (h : Lies w g (byteVals l) T) : ∀ (i z : Nat), l[i]? = some z → ∃ b off, (some ⟨g, 0, none⟩ : Option Addr) = some ⟨b, off, none⟩ ∧ w.cell? ⟨b, off + i, none⟩ = some (.int .u8 (z : Int)) := fun i z hz =>
  ⟨g, 0, rfl, by rw [Nat.zero_add]; exact h.cell (by unfold byteVals; rw [List.getElem?_map, hz]; rfl)⟩
theorem own_below {w w' : World} {B : Nat} {v : Value} {l : List Nat} (h : Own8 w B v l) (hB : B ≤ w.heap.size) (hg : w.grownBy w' v.ownBlock) : Below B w w' := by
  refine (Below.refl B w).grown hg hB (fun q hq => ?_)
  exact (OwnsM.of h).lt q hq |>.1
/-- append of bytes onto a row of one's own. -/
theorem app_bytes {ops : Array Oper} {rest : List Oper} {o : Oper} {ac : Act} {Q : Exit → Act → World → Prop} {w : World} (hgd : o.guard = none) (s x : Operand)
    (ho : o.op = .call { callee := .builtin .append, args := #[s, x], argTypes := #[59, 59] })
    (B : Nat) (v : Value) (l : List Nat) (hs : ac.eval s = v) (hown : Own8 w B v l) (ad : Addr) (m c : Nat) (news : List Nat) (hx : ac.eval x = .slice (some ad) m c) (hl : news.length = m)
    (hnews : ∀ (j : Nat) (u : Value), (byteVals news)[j]? = some u → w.cell? (ad.add j) = some u) (hz : l.length + m ≤ 1000000) (hB : B ≤ w.heap.size)
    (h : ∀ v' w', Own8 w' B v' (l ++ news) → Below B w w' → wpList Tryz.prog ops Q rest (ac.put o.dst v') w') : wpList Tryz.prog ops Q (o :: rest) ac w := by
  obtain ⟨ib, hib, hb0, hb1, hb2⟩ := info_parts info_byte
  refine wpList_append_own _ hgd s x 59 ho B 5 ib (.int .u8 0) 1 1 Tryz.underlying59 hib hb0 hb1 hb2 rfl (by decide) v l.length (byteVals l) hs hown ad m c (byteVals news) hx (by unfold byteVals; rw [List.length_map, hl]; omega) hnews (fun u hu => by
    unfold byteVals at hu
    obtain ⟨z, _, rfl⟩ := List.mem_map.1 hu
    rfl) (by unfold maxLen; omega) (by omega) hB ?_
  intro v' w' h1 h2 _
  refine h v' w' ?_ (own_below hown hB h2)
  show w'.ownsRow B 5 1 v' (l ++ news).length (byteVals (l ++ news))
  rw [byteVals_app, List.length_append, hl]
  exact h1
/-- append of a text's bytes onto a row of one's own. -/
theorem app_text {ops : Array Oper} {rest : List Oper} {o : Oper} {ac : Act} {Q : Exit → Act → World → Prop} {w : World} (hgd : o.guard = none) (s x : Operand)
    (ho : o.op = .call { callee := .builtin .append, args := #[s, x], argTypes := #[59, 9] })
    (B : Nat) (v : Value) (l : List Nat) (hs : ac.eval s = v) (hown : Own8 w B v l) (t : ByteArray) (hx : ac.eval x = .string t) (hz : l.length + t.size ≤ 1000000) (hB : B ≤ w.heap.size)
    (h : ∀ v' w', Own8 w' B v' (l ++ nats t) → Below B w w' → wpList Tryz.prog ops Q rest (ac.put o.dst v') w') : wpList Tryz.prog ops Q (o :: rest) ac w := by
  obtain ⟨ib, hib, hb0, hb1, hb2⟩ := info_parts info_byte
  refine Lib.wpList_append_own_string _ hgd s x 59 9 ho B 5 ib Tryz.underlying59 Tryz.underlying9 hib hb0 hb1 hb2 v l.length (byteVals l) hs hown t hx (by unfold maxLen; omega) (by omega) hB ?_
  intro v' w' h1 h2 _
  refine h v' w' ?_ (own_below hown hB h2)
  show w'.ownsRow B 5 1 v' (l ++ nats t).length (byteVals (l ++ nats t))
  rw [byteVals_app, List.length_append, nats_len, ← strCells_nats]
  exact h1
theorem Own8.made (w : World) : Own8 (w.alloc (.cells #[] 5)) w.heap.size (.slice (some ⟨w.heap.size, 0, none⟩) 0 0) [] := World.ownsRow_made (base := w.heap.size) (e := 5) (size := 1) w #[] 0 (Nat.le_refl _) (by simp) (by simp)
theorem Own8.below {w w' : World} {B : Nat} {v : Value} {l : List Nat} (h : Own8 w B v l) (hb : Below w.heap.size w w') : Own8 w' B v l := by
  refine ⟨h.1, ?_⟩
  rcases h.2 with h2 | ⟨g, cap, cur, h1, h2, h3, h4⟩
  · exact Or.inl h2
  · exact Or.inr ⟨g, cap, cur, h1, h2, (hb.block g (Array.getElem?_eq_some_iff.1 h3).1).trans h3, h4⟩
theorem Own8.cells {w : World} {B : Nat} {v : Value} {l : List Nat} (h : Own8 w B v l) (h0 : 0 < l.length) : ∃ g cap, v = .slice (some ⟨g, 0, none⟩) l.length cap ∧ B ≤ g ∧ ∀ (i z : Nat), l[i]? = some z → w.cell? ⟨g, i, none⟩ = some (.int .u8 (z : Int)) := by
  obtain ⟨g, cap, hv, hB, _, _, _, hc, _⟩ := (OwnsM.of h).open h0
  refine ⟨g, cap, hv, hB, fun i z hz => ?_⟩
  rw [hc i (List.getElem?_eq_some_iff.1 hz).1]
  unfold byteVals
  rw [List.getElem?_map, hz]
  rfl
set_option maxRecDepth 100000 in
set_option maxHeartbeats 8000000 in
theorem refRaw (s : ByteArray) (w : World) (hs : s.size ≤ 10000) :
    Calls Tryz.prog 56 #[.string s] w fun e w' => (∃ v B, e = .returned v ∧ w.heap.size ≤ B ∧ Own8 w' B v (rawF (nats s))) ∧ Below w.heap.size w w' := by
  obtain ⟨n, hn⟩ : ∃ n, n = s.size := ⟨_, rfl⟩
  obtain ⟨a, ha⟩ : ∃ a, a = n / 256 := ⟨_, rfl⟩
  obtain ⟨b, hb⟩ : ∃ b, b = n % 256 := ⟨_, rfl⟩
  have n1 : IntKind.u8.wrap ((n : Int) / 256) = (a : Int) := by rw [IntKind.wrap_u8]; omega
  have n2 : IntKind.u8.wrap ((n : Int) % 256) = (b : Int) := by rw [IntKind.wrap_u8]; omega
  have HH := Lib.hid (show head s.size = [a, b] by unfold head; rw [ha, hb, hn])
  have HN := Lib.hid hn
  have e1 : (s.size : Int) = (n : Int) := by omega
  have hz : n ≤ 10000 := by omega
  have ha256 : a < 256 := by omega
  have hb256 : b < 256 := by omega
  clear hn ha hb
  have L1 := Lib.hid (Lies.new w (byteVals [a, b]) 5)
  have B1 := Lib.hid (show Below w.heap.size w (w.alloc (.cells #[.int .u8 (a : Int), .int .u8 (b : Int)] 5)) from (Below.refl _ _).alloc (Nat.le_refl _) _)
  have S1 := Lib.hid (show (w.alloc (.cells #[.int .u8 (a : Int), .int .u8 (b : Int)] 5)).heap.size = w.heap.size + 1 by simp)
  go_enter Tryz.func56, Tryz.ntmps56
  go_upto_region 2 with fail
  obtain ⟨w1, hw1⟩ : ∃ w1, w1 = w.alloc (.cells #[.int .u8 (a : Int), .int .u8 (b : Int)] 5) := ⟨_, rfl⟩
  have L1' : Lies w1 w.heap.size (byteVals [a, b]) 5 := by rw [hw1]; exact L1.out
  rw [← hw1] at B1 S1 ⊢
  clear hw1 L1
  have L2 := Lib.hid (L1'.below ((Below.refl w1.heap.size w1).alloc (Nat.le_refl _) (.cells #[] 5)))
  have O2 := Lib.hid (Own8.made w1)
  have B2 := Lib.hid (show Below w1.heap.size w1 (w1.alloc (.cells #[] 5)) from (Below.refl _ _).alloc (Nat.le_refl _) _)
  go_upto_region 3 with (at_builtin; refine app_bytes rfl _ _ rfl w1.heap.size _ [] rfl O2.out ⟨w.heap.size, 0, none⟩ 2 2 [a, b] rfl rfl (lies_news L2.out) (by simp) B2.out.size ?_; intro v2 w2 o2 b2)
  have O3 := Lib.hid o2
  have B3 := Lib.hid (B2.out.trans (b2.mono (Nat.le_refl _)))
  have L3 := Lib.hid (L1'.below B3.out)
  clear o2 b2 L2 O2 B2
  go_wp2_with fail
  refine (refSum [a, b] (some ⟨w.heap.size, 0, none⟩) 2 w2 (by simp) (fun i z hi => by
    have := List.mem_of_getElem? hi
    simp at this
    omega) (lies_bytes L3.out)).mono ?_
  rintro e w3 ⟨rfl, hb⟩
  have B4 := Lib.hid (B3.out.trans (hb.mono B3.out.size))
  have O4 := Lib.hid (O3.out.below hb)
  clear hb O3 B3 L3
  obtain ⟨h, hh⟩ : ∃ h, h = CrcMath.sum [a, b] := ⟨_, rfl⟩
  have hh32 : h < 4294967296 := by rw [hh]; exact CrcMath.sum_lt _
  have HSM := Lib.hid hh
  rw [← hh]
  clear hh
  go_wp2_with fail
  refine (refFour h w3 hh32).mono ?_
  rintro e w4 ⟨rfl, hw4⟩
  have L5 := Lib.hid (show Lies w4 w3.heap.size (byteVals (four h)) 5 by rw [hw4]; exact Lies.new w3 _ _)
  have b5 : Below w3.heap.size w3 w4 := by rw [hw4]; exact (Below.refl _ _).alloc (Nat.le_refl _) _
  have O5 := Lib.hid (O4.out.below b5)
  have B5 := Lib.hid (B4.out.trans (b5.mono B4.out.size))
  clear hw4 b5 O4 B4
  go_upto_region 4 with (at_builtin; refine app_bytes rfl _ _ rfl w1.heap.size _ ([] ++ [a, b]) rfl O5.out ⟨w3.heap.size, 0, none⟩ 4 4 (four h) rfl rfl (lies_news L5.out) (by simp) B5.out.size ?_; intro v5 w5 o5 b5)
  have O6 := Lib.hid o5
  have B6 := Lib.hid (B5.out.trans (b5.mono (Nat.le_refl _)))
  clear o5 b5 O5 B5 L5
  go_upto_region 5 with (at_builtin; refine app_text rfl _ _ rfl w1.heap.size _ ([] ++ [a, b] ++ four h) rfl O6.out s rfl (by simp [four]; omega) B6.out.size ?_; intro v6 w6 o6 b6)
  have O7 := Lib.hid o6
  have B7 := Lib.hid (B6.out.trans (b6.mono (Nat.le_refl _)))
  have L7 := Lib.hid (L1'.below B7.out)
  clear o6 b6 O6 B6
  have HNN := Lib.hid (nats_len s)
  have O8 := Lib.hid (Own8.made w6)
  have c8 := (show Below w6.heap.size w6 (w6.alloc (.cells #[] 5)) from (Below.refl _ _).alloc (Nat.le_refl _) _)
  have L8 := Lib.hid (L7.out.below (c8.mono (Nat.le_refl _)))
  have C8 := Lib.hid c8
  clear c8
  go_upto_region 6 with (first
    | (at_builtin; refine app_bytes rfl _ _ rfl w6.heap.size _ [] rfl O8.out ⟨w.heap.size, 0, none⟩ 2 2 [a, b] rfl rfl (lies_news L8.out) (by simp) C8.out.size ?_; intro v8 w8 o8 b8; have C9 := Lib.hid (C8.out.trans (b8.mono (Nat.le_refl _))); replace o8 := Lib.hid o8; clear b8)
    | (at_builtin; refine app_text rfl _ _ rfl w6.heap.size _ ([] ++ [a, b]) rfl o8.out s rfl (by simp; omega) C9.out.size ?_; intro v9 w9 o9 b9))
  have C10 := Lib.hid (C9.out.trans (b9.mono (Nat.le_refl _)))
  have O10 := Lib.hid (O7.out.below C10.out)
  have B10 := Lib.hid (B7.out.trans (C10.out.mono B7.out.size))
  obtain ⟨g9, cap9, rfl, hg9, hc9⟩ := o9.cells (by simp)
  clear b9 C9 C8 C10 O8 o8 o9 L8 L7 O7 B7
  have hb9 : ∀ b' ∈ ([] ++ [a, b] ++ nats s : List Nat), b' < 256 := by
    intro b' hb'
    rcases List.mem_append.1 hb' with h | h
    · simp at h; omega
    · exact nats_lt s b' h
  have hl9 : ([] ++ [a, b] ++ nats s : List Nat).length ≤ 20000 := by simp [HNN.out]; omega
  go_wp2_with fail
  refine (refSum ([] ++ [a, b] ++ nats s) (some ⟨g9, 0, none⟩) cap9 w9 hl9 (fun i z hi => hb9 z (List.mem_of_getElem? hi)) (fun i z hi => ⟨g9, 0, rfl, by rw [Nat.zero_add]; exact hc9 i z hi⟩)).mono ?_
  rintro e w10 ⟨rfl, hb⟩
  have B11 := Lib.hid (B10.out.trans (hb.mono B10.out.size))
  have O11 := Lib.hid (O10.out.below hb)
  clear hb O10 B10 hc9 hb9 hl9
  obtain ⟨k, hk⟩ : ∃ k, k = CrcMath.sum ([] ++ [a, b] ++ nats s) := ⟨_, rfl⟩
  have hk32 : k < 4294967296 := by rw [hk]; exact CrcMath.sum_lt _
  have HKM := Lib.hid hk
  rw [← hk]
  clear hk
  go_wp2_with fail
  refine (refFour k w10 hk32).mono ?_
  rintro e w11 ⟨rfl, hw11⟩
  have L12 := Lib.hid (show Lies w11 w10.heap.size (byteVals (four k)) 5 by rw [hw11]; exact Lies.new w10 _ _)
  have b12 : Below w10.heap.size w10 w11 := by rw [hw11]; exact (Below.refl _ _).alloc (Nat.le_refl _) _
  have O12 := Lib.hid (O11.out.below b12)
  have B12 := Lib.hid (B11.out.trans (b12.mono B11.out.size))
  clear hw11 b12 O11 B11
  go_wp2_with (at_builtin; refine app_bytes rfl _ _ rfl w1.heap.size _ ([] ++ [a, b] ++ four h ++ nats s) rfl O12.out ⟨w10.heap.size, 0, none⟩ 4 4 (four k) rfl rfl (lies_news L12.out) (by simp [four, HNN.out]; omega) B12.out.size ?_; intro v13 w13 o13 b13)
  go_ret
  have hraw : [] ++ [a, b] ++ four h ++ nats s ++ four k = rawF (nats s) := by
    unfold rawF
    rw [HNN.out, HH.out, ← HSM.out]
    rw [HKM.out]
    simp [List.append_assoc]
  rw [hraw] at o13
  have hws : w.heap.size ≤ w1.heap.size := by rw [S1.out]; omega
  exact ⟨⟨_, _, rfl, hws, o13⟩, B1.out.trans ((B12.out.trans b13).mono hws)⟩
end Go.Proofs.YtajkldmpllphjaaGreatDoor
namespace Go.Proofs.YtajkldmpllphjaaGreatDoor
open Go.RowKit FrameMath TextNat

/-- A row of bytes of one's own, the mark allowed. -/
def OwnM8 (w : World) (B : Nat) (v : Value) (l : List Nat) : Prop := OwnsM w B 5 v l.length (byteVals l)
theorem nibs_snoc {l : List Nat} {i z : Nat} (h : l[i]? = some z) : nibs (l.take (i + 1)) = nibs (l.take i) ++ [64 + z / 16, 64 + z % 16] := by
  rw [List.take_add_one, h, nibs_append]
  rfl
theorem ownm_below {w w' : World} {B : Nat} {v : Value} {l : List Nat} (h : OwnM8 w B v l) (hB : B ≤ w.heap.size) (hg : w.grownBy w' v.ownBlock) : Below B w w' :=
  (Below.refl B w).grown hg hB (fun q hq => (OwnsM.lt h q hq).1)
theorem two_at (w : World) (x y B : Nat) (hB : B = w.heap.size) : ∀ (j : Nat) (u : Value), (byteVals [x, y])[j]? = some u → (w.alloc (.cells #[.int .u8 (x : Int), .int .u8 (y : Int)] 5)).cell? ((⟨B, 0, none⟩ : Addr).add j) = some u := by
  subst hB
  exact lies_news (Lies.new w (byteVals [x, y]) 5)
theorem own_one (w : World) (x : Nat) : OwnM8 (w.alloc (.cells #[.int .u8 (x : Int)] 5)) w.heap.size (.slice (some ⟨w.heap.size, 0, none⟩) 1 1) [x] :=
  ⟨rfl, Or.inr ⟨w.heap.size, 1, #[.int .u8 (x : Int)], 0, 0, rfl, Nat.le_refl _, heap_alloc_new w _, Or.inl rfl, Nat.le_refl _, by unfold maxLen; decide, rfl, rfl⟩⟩
set_option maxRecDepth 100000 in
set_option maxHeartbeats 8000000 in
theorem refSeal (s : ByteArray) (w : World) (hs : s.size ≤ 10000) :
    Calls Tryz.prog 37 #[.string s] w fun e w' => e = .returned (.string (txt (framed (nats s)))) ∧ Below w.heap.size w w' := by
  obtain ⟨ib, hib, hb0, hb1, hb2⟩ := info_parts info_byte
  have HR := Lib.hid (refRaw s w hs)
  have HBY := Lib.hid (rawF_bytes (p := nats s) (by rw [nats_len]; omega) (nats_ok s))
  have HLN := Lib.hid (rawF_len (nats s))
  have HNN := Lib.hid (nats_len s)
  go_enter Tryz.func37, Tryz.ntmps37
  go_wp2_with fail
  refine HR.out.mono ?_
  rintro e w1 ⟨⟨v, B, rfl, hwB, hown⟩, hb⟩
  have HB1 := Lib.hid hb
  obtain ⟨R, hR⟩ : ∃ R, R = rawF (nats s) := ⟨_, rfl⟩
  rw [← hR] at hown HBY HLN
  have HRR := Lib.hid hR
  obtain ⟨g, cap, rfl, hg, hcell⟩ := hown.cells (by rw [HLN.out]; omega)
  obtain ⟨L, hL⟩ : ∃ L, L = R.length := ⟨_, rfl⟩
  have HL := Lib.hid hL
  have hL2 : L ≤ 10010 := by rw [hL, HLN.out, HNN.out]; omega
  rw [← hL]
  have HC := Lib.hid hcell
  have HG := Lib.hid (show g < w1.heap.size from World.block_lt_of_cell? w1 _ (hcell 0 _ (List.getElem?_eq_getElem (show 0 < R.length by rw [HLN.out]; omega))))
  clear hb hR hL hown hcell HR hwB
  have O1 := Lib.hid (show OwnM8 (w1.alloc (.cells #[.int .u8 1] 5)) w1.heap.size (.slice (some ⟨w1.heap.size, 0, none⟩) 1 1) [1] from own_one w1 1)
  have B1 := Lib.hid (show Below w1.heap.size w1 (w1.alloc (.cells #[.int .u8 1] 5)) from (Below.refl _ _).alloc (Nat.le_refl _) _)
  go_wp2_with fail
  go_loopg [4, 5] L (fun gh s4 s5 wx => ∃ i : Nat, i + gh = L ∧ s5 = .int .i64 (i : Int) ∧ OwnM8 wx w1.heap.size s4 (1 :: nibs (R.take i)) ∧ Below w1.heap.size w1 wx)
  case atStart => exact ⟨0, by omega, by go_num, O1.out, B1.out⟩
  case round =>
    obtain ⟨i, hi, rfl, hown, hb⟩ := hrel
    clear O1 B1
    rename World => W
    by_cases hiL : i < L
    · have t1 : decide ((i : Int) < (L : Int)) = true := decide_eq_true (by omega)
      have t1' : decide (i < L) = true := decide_eq_true hiL
      obtain ⟨z, hz⟩ : ∃ z, R[i]? = some z := ⟨_, List.getElem?_eq_getElem (by rw [← HL.out]; exact hiL)⟩
      have hz256 := HBY.out z (List.mem_of_getElem? hz)
      have hcz : W.cell? ⟨g, i, none⟩ = some (.int .u8 (z : Int)) := (hb.cell (p := ⟨g, i, none⟩) HG.out).trans (HC.out i z hz)
      obtain ⟨x, hx⟩ : ∃ x, x = 64 + z / 16 := ⟨_, rfl⟩
      obtain ⟨y, hy⟩ : ∃ y, y = 64 + z % 16 := ⟨_, rfl⟩
      obtain ⟨q, hq⟩ : ∃ q, q = z / 16 := ⟨_, rfl⟩
      obtain ⟨t, ht⟩ : ∃ t, t = z % 16 := ⟨_, rfl⟩
      have kq : IntKind.u8.wrap ((z : Int) / 16) = (q : Int) := by rw [IntKind.wrap_u8]; omega
      have kt : (z : Int).tmod 16 = (t : Int) := by rw [ht]; rfl
      have k1 : IntKind.u8.wrap (64 + (q : Int)) = (x : Int) := by rw [IntKind.wrap_u8]; omega
      have k2 : IntKind.u8.wrap (64 + (t : Int)) = (y : Int) := by rw [IntKind.wrap_u8]; omega
      have HZ := Lib.hid (show 1 :: nibs (R.take i) ++ [x, y] = 1 :: nibs (R.take (i + 1)) by rw [nibs_snoc hz, hx, hy]; rfl)
      have HOL := Lib.hid (show (1 :: nibs (R.take i)).length ≤ 30000 by rw [List.length_cons, nibs_len, List.length_take]; omega)
      have HOb := Lib.hid (show OwnsM (W.alloc (.cells #[.int .u8 (x : Int), .int .u8 (y : Int)] 5)).drew w1.heap.size 5 _ _ _ from hown.alloc (.cells #[.int .u8 (x : Int), .int .u8 (y : Int)] 5))
      have HBb := Lib.hid (show Below w1.heap.size w1 (W.alloc (.cells #[.int .u8 (x : Int), .int .u8 (y : Int)] 5)).drew from (hb.alloc hb.size (.cells #[.int .u8 (x : Int), .int .u8 (y : Int)] 5)).drew)
      have HTW := Lib.hid (show ∀ (j : Nat) (u : Value), (byteVals [x, y])[j]? = some u → (W.alloc (.cells #[.int .u8 (x : Int), .int .u8 (y : Int)] 5)).drew.cell? ((⟨W.heap.size, 0, none⟩ : Addr).add j) = some u from two_at W x y _ rfl)
      have HON := Lib.hid (show ∀ u ∈ byteVals [x, y], u.oneCell' = true from fun u hu => by simp [byteVals] at hu; rcases hu with rfl | rfl <;> rfl)
      have H63 := Lib.hid (show (1 :: nibs (R.take i)).length + 2 ≤ maxLen by unfold maxLen; have := HOL.out; omega)
      have HBY2 := Lib.hid (show ((1 :: nibs (R.take i)).length + 2) * 1 ≤ 140737488355328 by have := HOL.out; omega)
      clear hown hb hz hx hy hq ht
      go_wp2_with fail
      go_region_law (refine step_append_m rfl (.tmp 15) (.tmp 28) 59 rfl w1.heap.size 5 ib (.int .u8 0) 1 Tryz.underlying59 hib hb0 hb1 hb2 rfl _ _ _ (by simp [Act.eval]) HOb.out ⟨W.heap.size, 0, none⟩ 2 2 (byteVals [x, y]) (by simp [Act.eval]) rfl HTW.out HON.out H63.out HBY2.out HBb.out.size ?_; intro v9 w9 hown9 hgrow9)
      all_goals
        have hB9 : Below w1.heap.size w1 w9 := HBb.out.trans (ownm_below (show OwnM8 _ w1.heap.size _ (1 :: nibs (R.take i)) from HOb.out) HBb.out.size hgrow9)
        have hO9 : OwnM8 w9 w1.heap.size v9 (1 :: nibs (R.take (i + 1))) := by
          rw [← HZ.out]
          show OwnsM w9 w1.heap.size 5 v9 _ _
          rw [byteVals_app, List.length_append]
          exact hown9
        clear hown9 hgrow9
        go_wp2_with fail
        go_roundg (L - (i + 1))
        case measure => omega
        case rel => exact ⟨i + 1, by omega, by go_num, hO9, hB9⟩
    · have t1 : decide ((i : Int) < (L : Int)) = false := decide_eq_false (by omega)
      have t1' : decide (i < L) = false := decide_eq_false hiL
      have hfr : 1 :: nibs (R.take i) = framed (nats s) := by
        rw [List.take_of_length_le (by rw [← HL.out]; omega), HRR.out]
        rfl
      rw [hfr] at hown
      have hoct : ∀ b ∈ framed (nats s), b < 256 := by
        intro b hb'
        rcases framed_mem (by rw [HNN.out]; omega) (nats_ok s) b hb' with h | h <;> omega
      obtain ⟨g2, cap2, hv, _, _, _, _, hc2, _⟩ := hown.open (by rw [framed_len]; omega)
      subst hv
      have kt := text_row W g2 cap2 (framed (nats s)) hoct (fun j hj => by
        rw [hc2 j hj]
        rfl)
      have HB3 := Lib.hid (HB1.out.trans (hb.mono HB1.out.size))
      clear hown hb hc2 hfr hoct
      go_wp2_with fail
      go_ret
      exact ⟨rfl, HB3.out⟩
end Go.Proofs.YtajkldmpllphjaaGreatDoor
namespace Go.Proofs.YtajkldmpllphjaaGreatDoor
open Go.RowKit CrcMath

set_option maxHeartbeats 4000000 in
theorem sum_walk (zs : List Nat) (pp : Option Addr) (cap : Nat) (w : World) (hn : zs.length ≤ 1099511627776) (hz : Bytes w pp zs) (hT : Tables w) :
    Calls Tryz.prog 97 #[.slice pp zs.length cap] w fun e w' => e = .returned (.int .u32 (sum zs : Nat)) ∧ ∃ n, w' = w.drewN n := by
  have HZ := Lib.hid hz
  have HT := Lib.hid hT
  have HN := Lib.hid hn
  clear hz hT hn
  go_enter Tryz.func97, Tryz.ntmps97
  go_wp2
  go_loopg [3, 8] zs.length (fun g s3 s8 wx => ∃ k v n : Nat, k + g = zs.length ∧ s8 = .int .i64 k ∧ s3 = .int .u32 v ∧ Hid (v = sum (zs.take k)) ∧ wx = w.drewN n)
  case atStart => exact ⟨0, 0, 0, by omega, by go_num, by go_num, Lib.hid (by rw [List.take_zero]; rfl), rfl⟩
  case round =>
    obtain ⟨k, v, n, hk, rfl, rfl, hv, rfl⟩ := hrel
    by_cases hlt : k < zs.length
    · obtain ⟨hz, b, off, rfl, c0⟩ := HZ.out k _ (List.getElem?_eq_getElem hlt)
      obtain ⟨z, hzk⟩ : ∃ z, z = zs[k] := ⟨_, rfl⟩
      rw [← hzk] at c0 hz
      have HK := Lib.hid hzk
      have hNN := HN.out
      have HS := Lib.hid (step_walk v z (w.drewN n) (by rw [hv.out]; exact sum_lt _) hz (HT.out.drewN n))
      clear hzk
      go_wp2_with (go_at_call 99; refine HS.out.mono ?_; rintro e w3 ⟨rfl, m, rfl⟩)
      go_roundg (zs.length - (k + 1))
      case measure => omega
      case rel => exact ⟨k + 1, CrcMath.step v z, n + m, by omega, by go_num, rfl, Lib.hid (by rw [List.take_succ_eq_append_getElem hlt, sum_snoc, ← HK.out, hv.out]), rfl⟩
    · obtain rfl : k = zs.length := by omega
      have d1 : decide (zs.length < zs.length) = false := by simp
      clear hlt
      go_wp2
      go_ret
      have hv' := hv.out
      rw [List.take_length] at hv'
      exact ⟨by rw [hv']; rfl, _, rfl⟩
end Go.Proofs.YtajkldmpllphjaaGreatDoor
namespace Go.Proofs.YtajkldmpllphjaaGreatDoor
open Go.RowKit FrameMath TextNat CrcMath

/-- A store into a row of bytes of one's own. -/
theorem Own8.set {w : World} {B g cap n : Nat} {l : List Nat} (h : Own8 w B (.slice (some ⟨g, 0, none⟩) n cap) l) (j z : Nat) : Own8 (w.setCell ⟨g, j, none⟩ (.int .u8 (z : Int))) B (.slice (some ⟨g, 0, none⟩) n cap) (l.set j z) := by
  refine ⟨by unfold byteVals; rw [List.length_map, Nat.mul_one], ?_⟩
  rcases h.2 with ⟨h1, _⟩ | ⟨g', cap', cur, hv, hb, hg, hnc, hcm, hcs, ht⟩
  · cases h1
  · simp only [Value.slice.injEq, Option.some.injEq, Addr.mk.injEq] at hv
    obtain ⟨⟨rfl, _⟩, rfl, rfl⟩ := hv
    refine .inr ⟨g, cap, cur.setIfInBounds j (.int .u8 (z : Int)), by rw [List.length_set], hb, ?_, by rw [List.length_set]; exact hnc, hcm, by simpa using hcs, ?_⟩
    · rw [setCell_eq_setRow w g j cur 5 (0, 0) _ hg]
      exact setRow_heap w g cur _ 5 _ hg
    · rw [Array.toList_setIfInBounds, List.length_set, List.take_set, ht]
      unfold byteVals
      rw [List.map_set]
theorem own_store {B g j : Nat} {a w : World} {v : Value} (h : Below B a w) (hg : B ≤ g) : Below B a (w.setCell ⟨g, j, none⟩ v) :=
  ⟨h.os, h.tape, h.output, by have := h.size; simpa [World.setCell] using this, fun k hk => (Below.heap_setCell _ _ _ _ (by show k ≠ g; omega)).trans (h.block k hk)⟩
/-- A row of noughts with spare room. -/
theorem made8 (n c : Nat) (hc : c ≤ 1000000) (hn : n ≤ c) : ∀ u : World, (Instr.makeSlice 59 (.int .i64 (n : Int)) (.int .i64 (c : Int))).run Tryz.prog u = .ok (.slice (some ⟨u.heap.size, 0, none⟩) n c) (u.alloc (.cells (List.replicate c (Value.int .u8 0)).toArray 5)) := fun u => by
  obtain ⟨ii, hii, hi0, hi1, hi2⟩ := info_parts info_byte
  have h := run_make (P := Tryz.prog) u 59 5 ii (.int .u8 0) Tryz.underlying59 hii hi0 .i64 .i64 (n : Int) (c : Int) (by omega) (by omega) (by rw [hi2]; omega) (by omega)
  rw [h, hi1, Nat.mul_one, Int.toNat_natCast, Int.toNat_natCast]
  have e : madeCells (Value.int IntKind.u8 0).cells c = (List.replicate c (Value.int .u8 0)).toArray := by
    apply Array.toList_inj.1
    exact toList_madeCells_one _ _
  rw [e]
theorem byteVals_noughts (n : Nat) : byteVals (List.replicate n 0) = List.replicate n (Value.int .u8 0) := by
  unfold byteVals
  rw [List.map_replicate]
  rfl
theorem own_made8 (n c : Nat) (hc : c ≤ 1000000) (hn : n ≤ c) (u : World) : Own8 (u.alloc (.cells (List.replicate c (Value.int .u8 0)).toArray 5)) u.heap.size (.slice (some ⟨u.heap.size, 0, none⟩) n c) (List.replicate n 0) := by
  refine ⟨by rw [byteVals_noughts, List.length_replicate, List.length_replicate, Nat.mul_one], .inr ⟨u.heap.size, c, _, by rw [List.length_replicate], Nat.le_refl _, heap_alloc_new u _, by rw [List.length_replicate]; exact hn, by unfold maxLen; omega, by simp, ?_⟩⟩
  rw [List.length_replicate, Nat.mul_one, byteVals_noughts, List.take_replicate, Nat.min_eq_left hn]
/-- The cells of such a row: what they are, that they may be written. -/
theorem Own8.block {w : World} {B g cap n : Nat} {l : List Nat} (h : Own8 w B (.slice (some ⟨g, 0, none⟩) n cap) l) : n = l.length ∧ B ≤ g ∧ g < w.heap.size ∧ (∀ i z : Nat, l[i]? = some z → w.cell? ⟨g, i, none⟩ = some (.int .u8 (z : Int))) ∧ (∀ i : Nat, w.frozen? ⟨g, i, none⟩ = false) := by
  rcases h.2 with ⟨h1, _⟩ | ⟨g', cap', cur, hv, hb, hg, hnc, hcm, hcs, ht⟩
  · cases h1
  · simp only [Value.slice.injEq, Option.some.injEq, Addr.mk.injEq] at hv
    obtain ⟨⟨rfl, _⟩, rfl, rfl⟩ := hv
    refine ⟨rfl, hb, (Array.getElem?_eq_some_iff.1 hg).1, fun i z hz => ?_, fun i => by simp [World.frozen?, hg]⟩
    rw [cell_of_row w g i cur _ _ hg]
    have := congrArg (fun k : List Value => k[i]?) ht
    simp only [List.getElem?_take, Nat.mul_one, if_pos (List.getElem?_eq_some_iff.1 hz).1, Array.getElem?_toList] at this
    rw [this]
    unfold byteVals
    rw [List.getElem?_map, hz]
    rfl
theorem Own8.room {w : World} {B n cap : Nat} {p : Option Addr} {l : List Nat} (h : Own8 w B (.slice p n cap) l) : n = l.length ∧ l.length ≤ cap := by
  rcases h.2 with ⟨h1, h2⟩ | ⟨g', cap', cur, hv, hb, hg, hnc, hcm, hcs, ht⟩
  · simp only [Value.slice.injEq] at h1
    omega
  · simp only [Value.slice.injEq] at hv
    omega
theorem setRow_same {w : World} {g : Nat} {cs cs' : Array Value} {e : TypeId} (hg : w.heap[g]? = some (.cells cs e (0, 0))) (h : cs' = cs) : w.setRow g cs' = w := by
  subst h
  have : (w.setRow g cs').heap = w.heap := by
    apply Array.ext_getElem?
    intro i
    by_cases hi : i = g
    · subst hi
      rw [setRow_heap w i cs' cs' e (0, 0) hg, hg]
    · simp [World.setRow, Array.getElem?_modify, Ne.symm hi]
  unfold World.setRow at this ⊢
  simp only at this
  rw [this]
/-- append of a text's bytes onto a slice that is full: the elder row stays as it is. -/
theorem app_full {ops : Array Oper} {rest : List Oper} {o : Oper} {ac : Act} {Q : Exit → Act → World → Prop} {w : World} (hgd : o.guard = none) (sl x : Operand)
    (ho : o.op = .call { callee := .builtin .append, args := #[sl, x], argTypes := #[59, 9] })
    (B g cap n : Nat) (l : List Nat) (m : Nat) (hs : ac.eval sl = .slice (some ⟨g, 0, none⟩) m m) (hown : Own8 w B (.slice (some ⟨g, 0, none⟩) n cap) l) (hm : m ≤ l.length) (t : ByteArray) (hx : ac.eval x = .string t) (hz : l.length + t.size ≤ 1000000) (k : Nat) (hk : k = m + t.size)
    (h : ∀ pp c' w', (∀ i z : Nat, (l.take m ++ nats t)[i]? = some z → ∃ b off, pp = some ⟨b, off, none⟩ ∧ w'.cell? ⟨b, off + i, none⟩ = some (.int .u8 (z : Int))) → Below w.heap.size w w' → wpList Tryz.prog ops Q rest (ac.put o.dst (.slice pp k c')) w') : wpList Tryz.prog ops Q (o :: rest) ac w := by
  subst hk
  obtain ⟨ib, hib, hb0, hb1, hb2⟩ := info_parts info_byte
  have hcells := hown.block
  obtain ⟨hn, hBg, hgl, hc, _⟩ := hcells
  refine wpList_plain hgd fun K hK => ?_
  by_cases h0 : t.size = 0
  · rcases hown.2 with ⟨h1, _⟩ | ⟨g', cap', cur, hv, hb, hg, hnc, hcm, hcs, ht⟩
    · cases h1
    · simp only [Value.slice.injEq, Option.some.injEq, Addr.mk.injEq] at hv
      obtain ⟨⟨rfl, _⟩, _, _⟩ := hv
      have hst : Lib.strCells t = [] := List.eq_nil_of_length_eq_zero (by rw [Lib.strCells_length]; exact h0)
      have hr := Lib.run_append_room_string (P := Tryz.prog) w 59 9 o.type 5 ib Tryz.underlying59 Tryz.underlying9 hib hb1 g m m cur hg t (by omega) (by omega)
      rw [setRow_same hg (by rw [hst, h0]; simp)] at hr
      have hres := h (some ⟨g, 0, none⟩) m w (fun i z hi => by
        have hnt : nats t = [] := List.eq_nil_of_length_eq_zero (by rw [nats_len]; exact h0)
        rw [hnt, List.append_nil, List.getElem?_take] at hi
        split at hi
        · exact ⟨g, 0, rfl, by rw [Nat.zero_add]; exact hc i z hi⟩
        · cases hi) (Below.refl _ _)
      unfold Oper.wp execOp
      simp only [ho, resolve, invoke, builtin, Sem.run_bind, Sem.run_pure, Result.andThen_ok, List.map_toArray, List.map_cons, List.map_nil, hs, hx, hr]
      exact hK _ _ hres
  · have hr := Lib.run_append_grow_string (P := Tryz.prog) w 59 9 o.type 5 ib (.int .u8 0) Tryz.underlying59 Tryz.underlying9 hib hb0 ⟨g, 0, none⟩ m m (byteVals (l.take m)) (by unfold byteVals; rw [List.length_map, List.length_take, hb1]; omega) (fun j v hj => by
      unfold byteVals at hj
      rw [List.getElem?_map] at hj
      cases hz' : (l.take m)[j]? with
      | none => rw [hz'] at hj; cases hj
      | some z =>
        rw [hz'] at hj
        obtain rfl := Option.some.inj hj
        rw [List.getElem?_take] at hz'
        split at hz'
        · rw [show (⟨g, 0, none⟩ : Addr).add j = ⟨g, j, none⟩ by unfold Addr.add; split <;> simp_all]
          exact hc j z hz'
        · cases hz') t (by omega) (by omega) (by rw [hb2]; exact growslice_fits (by omega) (by omega))
    have hres := h (some ⟨w.heap.size, 0, none⟩) (grownCap w (m + t.size) m 5) (w.drew.alloc (.cells ((byteVals (l.take m)).toArray ++ (Lib.strCells t).toArray ++ Builtin.zeroCells (Value.int .u8 0).cells (grownCap w (m + t.size) m 5 - (m + t.size))) 5)) (fun i z hi => by
      refine ⟨w.heap.size, 0, rfl, ?_⟩
      rw [Nat.zero_add, cell_of_row _ w.heap.size i _ 5 (0, 0) (heap_alloc_new w.drew _)]
      have hb : (byteVals (l.take m ++ nats t))[i]? = some (.int .u8 (z : Int)) := by
        unfold byteVals
        rw [List.getElem?_map, hi]
        rfl
      rw [byteVals_app, ← strCells_nats] at hb
      rw [← Array.getElem?_toList]
      simp only [Array.toList_append]
      rw [List.getElem?_append_left (by
        have := (List.getElem?_eq_some_iff.1 hb).1
        simpa using this)]
      simpa using hb) ((Below.refl w.heap.size w).drew.alloc (Nat.le_refl _) _)
    unfold Oper.wp execOp
    simp only [ho, resolve, invoke, builtin, Sem.run_bind, Sem.run_pure, Result.andThen_ok, List.map_toArray, List.map_cons, List.map_nil, hs, hx, hr]
    exact hK _ _ hres
end Go.Proofs.YtajkldmpllphjaaGreatDoor
namespace Go.Proofs.YtajkldmpllphjaaGreatDoor
open Go.RowKit FrameMath TextNat CrcMath

set_option maxHeartbeats 4000000 in
theorem pFour (s a b c d : Nat) (w : World) (hs : s < 4294967296) (h : four s = [a, b, c, d]) :
    Calls Tryz.prog 96 #[.int .u32 (s : Int)] w fun e w' => e = .returned (.agg #[.int .u8 (a : Int), .int .u8 (b : Int), .int .u8 (c : Int), .int .u8 (d : Int)]) ∧ Below w.heap.size w w' := by
  unfold four at h
  simp only [List.cons.injEq, and_true] at h
  obtain ⟨h1, h2, h3, h4⟩ := h
  go_enter Tryz.func96, Tryz.ntmps96
  go_wp2
  go_returns
  refine ⟨?_, ((Below.refl _ _).alloc (Nat.le_refl _) _)⟩
  have e1 : (a : Int) = (s : Int) % 256 := by omega
  have e2 : (b : Int) = (s : Int) / 256 % 256 := by omega
  have e3 : (c : Int) = (s : Int) / 65536 % 256 := by omega
  have e4 : (d : Int) = (s : Int) / 16777216 := by omega
  rw [e1, e2, e3, e4]
set_option maxRecDepth 100000 in
set_option maxHeartbeats 8000000 in
theorem withSum_ok (l zs : List Nat) (B : Nat) (v : Value) (pp : Option Addr) (cap : Nat) (w : World) (hT : Tables w) (hown : Own8 w B v l) (hB : B ≤ w.heap.size) (hl : l.length ≤ 900000) (hzl : zs.length ≤ 900000) (hz : Bytes w pp zs) :
    Calls Tryz.prog 91 #[v, .slice pp zs.length cap] w fun e w' => (∃ v', e = .returned v' ∧ Own8 w' B v' (l ++ four (sum zs))) ∧ Below B w w' := by
  have HS := Lib.hid (sum_walk zs pp cap w (by omega) hz hT)
  have HO := Lib.hid hown
  obtain ⟨s, hs⟩ : ∃ s, s = sum zs := ⟨_, rfl⟩
  have hs32 : s < 4294967296 := by rw [hs]; exact sum_lt _
  rw [← hs] at HS ⊢
  obtain ⟨n, hn⟩ : ∃ n, n = zs.length := ⟨_, rfl⟩
  rw [← hn] at HS ⊢
  obtain ⟨a, b, c, d, h4⟩ : ∃ a b c d, four s = [a, b, c, d] := ⟨_, _, _, _, rfl⟩
  have H4 := Lib.hid h4
  have HF := Lib.hid (fun w1 => pFour s a b c d w1 hs32 h4)
  have HL := Lib.hid hl
  have HB := Lib.hid hB
  clear hT hown hz hs hn h4 hl hzl hB
  go_enter Tryz.func91, Tryz.ntmps91
  go_wp2_with fail
  refine HS.out.mono ?_
  rintro e w1 ⟨rfl, k, hk⟩
  have O1 := Lib.hid (show Own8 w1 B v l by rw [hk]; exact HO.out)
  have B1 := Lib.hid (show Below w.heap.size w w1 by rw [hk]; exact ⟨rfl, rfl, rfl, Nat.le_refl _, fun _ _ => rfl⟩)
  clear hk HO HS
  go_wp2_with fail
  refine (HF.out w1).mono ?_
  rintro e w2 ⟨rfl, hb⟩
  have O2 := Lib.hid (O1.out.below hb)
  have B2 := Lib.hid (B1.out.trans (hb.mono B1.out.size))
  clear hb O1 B1 HF
  have hb3 := (show Below w2.heap.size w2 (w2.alloc (.cells #[.int .u8 (a : Int), .int .u8 (b : Int), .int .u8 (c : Int), .int .u8 (d : Int)] 163)) from (Below.refl _ _).alloc (Nat.le_refl _) _)
  have O3 := Lib.hid (O2.out.below hb3)
  have B3 := Lib.hid (B2.out.trans (hb3.mono B2.out.size))
  have L3 := Lib.hid (Lies.new w2 (byteVals [a, b, c, d]) 163)
  clear hb3 O2 B2
  go_wp2_with (at_builtin; refine app_bytes rfl _ _ rfl B _ l rfl O3.out ⟨w2.heap.size, 0, none⟩ 4 4 [a, b, c, d] rfl rfl (lies_news L3.out) (by have := HL.out; simp; omega) (by have := HB.out; have := B3.out.size; omega) ?_; intro v5 w5 o5 b5)
  go_ret
  rw [← H4.out] at o5
  exact ⟨⟨_, rfl, o5⟩, (B3.out.mono HB.out).trans b5⟩
set_option maxRecDepth 100000 in
set_option maxHeartbeats 8000000 in
theorem raw_ok (s : ByteArray) (w : World) (hT : Tables w) (hs : s.size ≤ 10000) :
    Calls Tryz.prog 82 #[.string s] w fun e w' => (∃ v, e = .returned v ∧ Own8 w' w.heap.size v (rawF (nats s))) ∧ Below w.heap.size w w' := by
  obtain ⟨n, hn⟩ : ∃ n, n = s.size := ⟨_, rfl⟩
  obtain ⟨c, hc⟩ : ∃ c, c = 10 + n := ⟨_, rfl⟩
  obtain ⟨a, ha⟩ : ∃ a, a = n / 256 := ⟨_, rfl⟩
  obtain ⟨b, hb⟩ : ∃ b, b = n % 256 := ⟨_, rfl⟩
  have n1 : IntKind.u8.wrap ((n : Int) / 256) = (a : Int) := by rw [IntKind.wrap_u8]; omega
  have n2 : IntKind.u8.wrap (n : Int) = (b : Int) := by rw [IntKind.wrap_u8]; omega
  have n3 : IntKind.i64.wrap (10 + (n : Int)) = (c : Int) := by rw [IntKind.wrap_i64]; omega
  have HH := Lib.hid (show head s.size = [a, b] by unfold head; rw [ha, hb, hn])
  have HN := Lib.hid hn
  have e1 : (s.size : Int) = (n : Int) := by omega
  have hz : n ≤ 10000 := by omega
  have ha256 : a < 256 := by omega
  have hb256 : b < 256 := by omega
  have HT := Lib.hid hT
  have hmk : ∀ u : World, (Instr.makeSlice 59 (.int .i64 2) (.int .i64 (c : Int))).run Tryz.prog u = .ok (.slice (some ⟨u.heap.size, 0, none⟩) 2 c) (u.alloc (.cells (List.replicate c (Value.int .u8 0)).toArray 5)) := made8 2 c (by omega) (by omega)
  obtain ⟨Z, hZ⟩ : ∃ Z, Z = (List.replicate c (Value.int .u8 0)).toArray := ⟨_, rfl⟩
  have O1 := Lib.hid (show Own8 (w.alloc (.cells Z 5)) w.heap.size (.slice (some ⟨w.heap.size, 0, none⟩) 2 c) [0, 0] by rw [hZ]; exact own_made8 2 c (by omega) (by omega) w)
  have B1 := Lib.hid (show Below w.heap.size w (w.alloc (.cells Z 5)) from (Below.refl _ _).alloc (Nat.le_refl _) _)
  rw [← hZ] at hmk
  clear hn ha hb hT hZ hc
  go_enter Tryz.func82, Tryz.ntmps82
  go_upto_region 2 with fail
  obtain ⟨g, hg⟩ : ∃ g, g = w.heap.size := ⟨_, rfl⟩
  have HGg := Lib.hid hg
  rw [← hg] at O1 ⊢
  obtain ⟨w1, hw1⟩ : ∃ w1, w1 = w.alloc (.cells Z 5) := ⟨_, rfl⟩
  rw [← hw1] at O1 B1 ⊢
  clear hw1 hmk hg
  have O2 := Lib.hid ((O1.out.set 0 a).set 1 b)
  obtain ⟨-, -, hgl, hcl, hfr⟩ := O1.out.block
  have B2 := Lib.hid (own_store (own_store B1.out (g := g) (j := 0) (v := .int .u8 (a : Int)) (by have := HGg.out; omega)) (g := g) (j := 1) (v := .int .u8 (b : Int)) (by have := HGg.out; omega))
  have c0 := hcl 0 0 rfl
  have c1 := hcl 1 0 rfl
  have f0 := hfr 0
  have f1 := hfr 1
  clear hcl hfr O1 B1
  go_upto_region 3 with fail
  obtain ⟨w2, hw2⟩ : ∃ w2, w2 = (w1.setCell ⟨g, 0, none⟩ (.int .u8 (a : Int))).setCell ⟨g, 1, none⟩ (.int .u8 (b : Int)) := ⟨_, rfl⟩
  rw [← hw2] at O2 B2 ⊢
  clear hw2 c0 c1 f0 f1 hgl
  replace O2 := Lib.hid (show Own8 w2 w.heap.size (.slice (some ⟨g, 0, none⟩) 2 c) [a, b] by rw [HGg.out.symm]; exact O2.out)
  have HBY := Lib.hid (show Bytes w2 (some ⟨g, 0, none⟩) [a, b] from fun i z hi => by
    refine ⟨?_, g, 0, rfl, by rw [Nat.zero_add]; exact O2.out.block.2.2.2.1 i z hi⟩
    have hm := List.mem_of_getElem? hi
    simp at hm
    omega)
  go_wp2_with fail
  refine (withSum_ok [a, b] [a, b] w.heap.size _ _ c w2 (HT.out.grown B2.out) O2.out B2.out.size (by simp) (by simp) HBY.out).mono ?_
  rintro e w3 ⟨⟨v3, rfl, o3⟩, b3⟩
  have O3 := Lib.hid o3
  have B3 := Lib.hid (B2.out.trans b3)
  clear o3 b3 O2 B2 HBY
  go_upto_region 5 with (at_builtin; refine app_text rfl _ _ rfl w.heap.size _ ([a, b] ++ four (sum [a, b])) rfl O3.out s rfl (by simp [four]; omega) B3.out.size ?_; intro v4 w4 o4 b4)
  have O4 := Lib.hid o4
  have B4 := Lib.hid (B3.out.trans b4)
  clear o4 b4 O3 B3
  obtain ⟨g4, cap4, rfl, hg4, _⟩ := O4.out.cells (by simp)
  obtain ⟨R, hR⟩ : ∃ R, R = [a, b] ++ four (sum [a, b]) ++ nats s := ⟨_, rfl⟩
  have HR := Lib.hid hR
  have hRl : R.length = 6 + n := by rw [hR]; have := nats_len s; have := HN.out; simp [four]; omega
  have hcap : 2 ≤ cap4 := by
    have := O4.out.room
    rw [← hR, hRl] at this
    omega
  have hcap' : (2 : Int) ≤ (cap4 : Int) := by omega
  rw [← hR] at O4 ⊢
  obtain ⟨m4, hm4⟩ : ∃ m4, m4 = 6 + n := ⟨_, rfl⟩
  rw [hRl, ← hm4] at O4 ⊢
  clear hR
  go_upto_region 6 with fail
  obtain ⟨LS, hLS⟩ : ∃ LS, LS = Value.slice (some ⟨g4, 0, none⟩) 2 2 := ⟨_, rfl⟩
  rw [← hLS]
  have HLS := Lib.hid hLS
  have HR2 := Lib.hid (show 2 ≤ R.length ∧ R.length = 6 + n by omega)
  obtain ⟨ZS, hZS⟩ : ∃ ZS, ZS = R.take 2 ++ nats s := ⟨_, rfl⟩
  have hzl : ZS.length = 2 + s.size := by rw [hZS, List.length_append, List.length_take, nats_len]; omega
  have hzo : ∀ z ∈ ZS, z < 256 := by
    intro z hz'
    rw [hZS, HR.out] at hz'
    rcases List.mem_append.1 hz' with h | h
    · simp at h
      omega
    · exact nats_lt s z h
  have HZO := Lib.hid hzo
  have HZS := Lib.hid hZS
  have HZL := Lib.hid hzl
  clear hZS hzl hzo hLS hRl hm4 hcap hcap' hg4
  go_wp2_with (at_builtin; refine app_full rfl _ _ rfl w.heap.size g4 cap4 m4 R 2 HLS.out O4.out HR2.out.1 s rfl (by have := HR2.out.2; omega) ZS.length HZL.out ?_; intro p5 c5 w5 h5 b5)
  have BY5 := Lib.hid (show Bytes w5 p5 ZS from fun i z hi => ⟨HZO.out z (List.mem_of_getElem? hi), by rw [HZS.out] at hi; exact h5 i z hi⟩)
  have O5 := Lib.hid (O4.out.below b5)
  have B5 := Lib.hid (B4.out.trans (b5.mono B4.out.size))
  clear h5 b5 O4 B4
  go_wp2_with fail
  refine (withSum_ok R ZS w.heap.size _ p5 c5 w5 (HT.out.grown B5.out) O5.out B5.out.size (by have := HR2.out.2; omega) (by have := HZL.out; omega) BY5.out).mono ?_
  rintro e w6 ⟨⟨v6, rfl, o6⟩, b6⟩
  have O6 := Lib.hid o6
  have B6 := Lib.hid (B5.out.trans b6)
  clear o6 b6 O5 B5 BY5
  go_wp2
  go_ret
  have hraw : R ++ four (sum ZS) = rawF (nats s) := by
    unfold rawF
    rw [nats_len, HH.out, HZS.out, HR.out]
    simp
  have := O6.out
  rw [hraw] at this
  exact ⟨⟨_, rfl, this⟩, B6.out⟩
end Go.Proofs.YtajkldmpllphjaaGreatDoor
