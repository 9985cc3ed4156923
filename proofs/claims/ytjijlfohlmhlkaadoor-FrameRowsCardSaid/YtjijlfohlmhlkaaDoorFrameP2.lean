/-
  The program's own raw bytes of chapter 9: withSum, raw. No conditions but those typed.
-/
import Derived.Test.YtjijlfohlmhlkaaDoorFrameP1
import Derived.Deep.Cut
namespace Go.Proofs.YtjijlfohlmhlkaaDoor
open Go.RowKit FrameMath TextNat CrcMath

set_option maxHeartbeats 4000000 in
theorem pFour (s a b c d : Nat) (w : World) (hs : s < 4294967296) (h : four s = [a, b, c, d]) :
    Calls Tryd.prog 35 #[.int .u32 (s : Int)] w fun e w' => e = .returned (.agg #[.int .u8 (a : Int), .int .u8 (b : Int), .int .u8 (c : Int), .int .u8 (d : Int)]) ∧ Below w.heap.size w w' := by
  unfold four at h
  simp only [List.cons.injEq, and_true] at h
  obtain ⟨h1, h2, h3, h4⟩ := h
  go_enter Tryd.func35, Tryd.ntmps35
  go_wp2
  go_returns
  refine ⟨?_, ((Below.refl _ _).alloc (Nat.le_refl _) _)⟩
  have e1 : (a : Int) = (s : Int) % 256 := by omega
  have e2 : (b : Int) = (s : Int) / 256 % 256 := by omega
  have e3 : (c : Int) = (s : Int) / 65536 % 256 := by omega
  have e4 : (d : Int) = (s : Int) / 16777216 := by omega
  rw [e1, e2, e3, e4]
set_option maxRecDepth 100000 in
set_option maxHeartbeats 8000000 in
theorem withSum_ok (l zs : List Nat) (B : Nat) (v : Value) (pp : Option Addr) (cap : Nat) (w : World) (hT : Tables w) (hown : Own8 w B v l) (hB : B ≤ w.heap.size) (hl : l.length ≤ 900000) (hzl : zs.length ≤ 900000) (hz : Bytes w pp zs) :
    Calls Tryd.prog 24 #[v, .slice pp zs.length cap] w fun e w' => (∃ v', e = .returned v' ∧ Own8 w' B v' (l ++ four (sum zs))) ∧ Below B w w' := by
  have HS := Lib.hid (sum_walk zs pp cap w (by omega) hz hT)
  have HO := Lib.hid hown
  obtain ⟨s, hs⟩ : ∃ s, s = sum zs := ⟨_, rfl⟩
  have hs32 : s < 4294967296 := by rw [hs]; exact sum_lt _
  rw [← hs] at HS ⊢
  obtain ⟨n, hn⟩ : ∃ n, n = zs.length := ⟨_, rfl⟩
  rw [← hn] at HS ⊢
  obtain ⟨a, b, c, d, h4⟩ : ∃ a b c d, four s = [a, b, c, d] := ⟨_, _, _, _, rfl⟩
  have H4 := Lib.hid h4
  have HF := Lib.hid (fun w1 => pFour s a b c d w1 hs32 h4)
  have HL := Lib.hid hl
  have HB := Lib.hid hB
  clear hT hown hz hs hn h4 hl hzl hB
  go_enter Tryd.func24, Tryd.ntmps24
  go_wp2_with fail
  refine HS.out.mono ?_
  rintro e w1 ⟨rfl, k, hk⟩
  have O1 := Lib.hid (show Own8 w1 B v l by rw [hk]; exact HO.out)
  have B1 := Lib.hid (show Below w.heap.size w w1 by rw [hk]; exact ⟨rfl, rfl, rfl, Nat.le_refl _, fun _ _ => rfl⟩)
  clear hk HO HS
  go_wp2_with fail
  refine (HF.out w1).mono ?_
  rintro e w2 ⟨rfl, hb⟩
  have O2 := Lib.hid (O1.out.below hb)
  have B2 := Lib.hid (B1.out.trans (hb.mono B1.out.size))
  clear hb O1 B1 HF
  have hb3 := (show Below w2.heap.size w2 (w2.alloc (.cells #[.int .u8 (a : Int), .int .u8 (b : Int), .int .u8 (c : Int), .int .u8 (d : Int)] 69)) from (Below.refl _ _).alloc (Nat.le_refl _) _)
  have O3 := Lib.hid (O2.out.below hb3)
  have B3 := Lib.hid (B2.out.trans (hb3.mono B2.out.size))
  have L3 := Lib.hid (Lies.new w2 (byteVals [a, b, c, d]) 69)
  clear hb3 O2 B2
  go_wp2_with (at_builtin; refine app_bytes rfl _ _ rfl B _ l rfl O3.out ⟨w2.heap.size, 0, none⟩ 4 4 [a, b, c, d] rfl rfl (lies_news L3.out) (by have := HL.out; simp; omega) (by have := HB.out; have := B3.out.size; omega) ?_; intro v5 w5 o5 b5)
  go_ret
  rw [← H4.out] at o5
  exact ⟨⟨_, rfl, o5⟩, (B3.out.mono HB.out).trans b5⟩
set_option maxRecDepth 100000 in
set_option maxHeartbeats 8000000 in
theorem raw_ok (s : ByteArray) (w : World) (hT : Tables w) (hs : s.size ≤ 10000) :
    Calls Tryd.prog 18 #[.string s] w fun e w' => (∃ v, e = .returned v ∧ Own8 w' w.heap.size v (rawF (nats s))) ∧ Below w.heap.size w w' := by
  obtain ⟨n, hn⟩ : ∃ n, n = s.size := ⟨_, rfl⟩
  obtain ⟨c, hc⟩ : ∃ c, c = 10 + n := ⟨_, rfl⟩
  obtain ⟨a, ha⟩ : ∃ a, a = n / 256 := ⟨_, rfl⟩
  obtain ⟨b, hb⟩ : ∃ b, b = n % 256 := ⟨_, rfl⟩
  have n1 : IntKind.u8.wrap ((n : Int) / 256) = (a : Int) := by rw [IntKind.wrap_u8]; omega
  have n2 : IntKind.u8.wrap (n : Int) = (b : Int) := by rw [IntKind.wrap_u8]; omega
  have n3 : IntKind.i64.wrap (10 + (n : Int)) = (c : Int) := by rw [IntKind.wrap_i64]; omega
  have HH := Lib.hid (show head s.size = [a, b] by unfold head; rw [ha, hb, hn])
  have HN := Lib.hid hn
  have e1 : (s.size : Int) = (n : Int) := by omega
  have hz : n ≤ 10000 := by omega
  have ha256 : a < 256 := by omega
  have hb256 : b < 256 := by omega
  have HT := Lib.hid hT
  have hmk : ∀ u : World, (Instr.makeSlice 36 (.int .i64 2) (.int .i64 (c : Int))).run Tryd.prog u = .ok (.slice (some ⟨u.heap.size, 0, none⟩) 2 c) (u.alloc (.cells (List.replicate c (Value.int .u8 0)).toArray 5)) := made8 2 c (by omega) (by omega)
  obtain ⟨Z, hZ⟩ : ∃ Z, Z = (List.replicate c (Value.int .u8 0)).toArray := ⟨_, rfl⟩
  have O1 := Lib.hid (show Own8 (w.alloc (.cells Z 5)) w.heap.size (.slice (some ⟨w.heap.size, 0, none⟩) 2 c) [0, 0] by rw [hZ]; exact own_made8 2 c (by omega) (by omega) w)
  have B1 := Lib.hid (show Below w.heap.size w (w.alloc (.cells Z 5)) from (Below.refl _ _).alloc (Nat.le_refl _) _)
  rw [← hZ] at hmk
  clear hn ha hb hT hZ hc
  go_enter Tryd.func18, Tryd.ntmps18
  go_upto_region 2 with fail
  obtain ⟨g, hg⟩ : ∃ g, g = w.heap.size := ⟨_, rfl⟩
  have HGg := Lib.hid hg
  rw [← hg] at O1 ⊢
  obtain ⟨w1, hw1⟩ : ∃ w1, w1 = w.alloc (.cells Z 5) := ⟨_, rfl⟩
  rw [← hw1] at O1 B1 ⊢
  clear hw1 hmk hg
  have O2 := Lib.hid ((O1.out.set 0 a).set 1 b)
  obtain ⟨-, -, hgl, hcl, hfr⟩ := O1.out.block
  have B2 := Lib.hid (own_store (own_store B1.out (g := g) (j := 0) (v := .int .u8 (a : Int)) (by have := HGg.out; omega)) (g := g) (j := 1) (v := .int .u8 (b : Int)) (by have := HGg.out; omega))
  have c0 := hcl 0 0 rfl
  have c1 := hcl 1 0 rfl
  have f0 := hfr 0
  have f1 := hfr 1
  clear hcl hfr O1 B1
  go_upto_region 3 with fail
  obtain ⟨w2, hw2⟩ : ∃ w2, w2 = (w1.setCell ⟨g, 0, none⟩ (.int .u8 (a : Int))).setCell ⟨g, 1, none⟩ (.int .u8 (b : Int)) := ⟨_, rfl⟩
  rw [← hw2] at O2 B2 ⊢
  clear hw2 c0 c1 f0 f1 hgl
  replace O2 := Lib.hid (show Own8 w2 w.heap.size (.slice (some ⟨g, 0, none⟩) 2 c) [a, b] by rw [HGg.out.symm]; exact O2.out)
  have HBY := Lib.hid (show Bytes w2 (some ⟨g, 0, none⟩) [a, b] from fun i z hi => by
    refine ⟨?_, g, 0, rfl, by rw [Nat.zero_add]; exact O2.out.block.2.2.2.1 i z hi⟩
    have hm := List.mem_of_getElem? hi
    simp at hm
    omega)
  go_wp2_with fail
  refine (withSum_ok [a, b] [a, b] w.heap.size _ _ c w2 (HT.out.grown B2.out) O2.out B2.out.size (by simp) (by simp) HBY.out).mono ?_
  rintro e w3 ⟨⟨v3, rfl, o3⟩, b3⟩
  have O3 := Lib.hid o3
  have B3 := Lib.hid (B2.out.trans b3)
  clear o3 b3 O2 B2 HBY
  go_upto_region 5 with (at_builtin; refine app_text rfl _ _ rfl w.heap.size _ ([a, b] ++ four (sum [a, b])) rfl O3.out s rfl (by simp [four]; omega) B3.out.size ?_; intro v4 w4 o4 b4)
  have O4 := Lib.hid o4
  have B4 := Lib.hid (B3.out.trans b4)
  clear o4 b4 O3 B3
  obtain ⟨g4, cap4, rfl, hg4, _⟩ := O4.out.cells (by simp)
  obtain ⟨R, hR⟩ : ∃ R, R = [a, b] ++ four (sum [a, b]) ++ nats s := ⟨_, rfl⟩
  have HR := Lib.hid hR
  have hRl : R.length = 6 + n := by rw [hR]; have := nats_len s; have := HN.out; simp [four]; omega
  have hcap : 2 ≤ cap4 := by
    have := O4.out.room
    rw [← hR, hRl] at this
    omega
  have hcap' : (2 : Int) ≤ (cap4 : Int) := by omega
  rw [← hR] at O4 ⊢
  obtain ⟨m4, hm4⟩ : ∃ m4, m4 = 6 + n := ⟨_, rfl⟩
  rw [hRl, ← hm4] at O4 ⊢
  clear hR
  go_upto_region 6 with fail
  obtain ⟨LS, hLS⟩ : ∃ LS, LS = Value.slice (some ⟨g4, 0, none⟩) 2 2 := ⟨_, rfl⟩
  rw [← hLS]
  have HLS := Lib.hid hLS
  have HR2 := Lib.hid (show 2 ≤ R.length ∧ R.length = 6 + n by omega)
  obtain ⟨ZS, hZS⟩ : ∃ ZS, ZS = R.take 2 ++ nats s := ⟨_, rfl⟩
  have hzl : ZS.length = 2 + s.size := by rw [hZS, List.length_append, List.length_take, nats_len]; omega
  have hzo : ∀ z ∈ ZS, z < 256 := by
    intro z hz'
    rw [hZS, HR.out] at hz'
    rcases List.mem_append.1 hz' with h | h
    · simp at h
      omega
    · exact nats_lt s z h
  have HZO := Lib.hid hzo
  have HZS := Lib.hid hZS
  have HZL := Lib.hid hzl
  clear hZS hzl hzo hLS hRl hm4 hcap hcap' hg4
  go_wp2_with (at_builtin; refine app_full rfl _ _ rfl w.heap.size g4 cap4 m4 R 2 HLS.out O4.out HR2.out.1 s rfl (by have := HR2.out.2; omega) ZS.length HZL.out ?_; intro p5 c5 w5 h5 b5)
  have BY5 := Lib.hid (show Bytes w5 p5 ZS from fun i z hi => ⟨HZO.out z (List.mem_of_getElem? hi), by rw [HZS.out] at hi; exact h5 i z hi⟩)
  have O5 := Lib.hid (O4.out.below b5)
  have B5 := Lib.hid (B4.out.trans (b5.mono B4.out.size))
  clear h5 b5 O4 B4
  go_wp2_with fail
  refine (withSum_ok R ZS w.heap.size _ p5 c5 w5 (HT.out.grown B5.out) O5.out B5.out.size (by have := HR2.out.2; omega) (by have := HZL.out; omega) BY5.out).mono ?_
  rintro e w6 ⟨⟨v6, rfl, o6⟩, b6⟩
  have O6 := Lib.hid o6
  have B6 := Lib.hid (B5.out.trans b6)
  clear o6 b6 O5 B5 BY5
  go_wp2
  go_ret
  have hraw : R ++ four (sum ZS) = rawF (nats s) := by
    unfold rawF
    rw [nats_len, HH.out, HZS.out, HR.out]
    simp
  have := O6.out
  rw [hraw] at this
  exact ⟨⟨_, rfl, this⟩, B6.out⟩
end Go.Proofs.YtjijlfohlmhlkaaDoor
