/-
  The contracts of mac's Digest, filled, Tag and Derive: the standard's digest and tag, the key of a number; old memory is as it was. The conditions: texts of at most 5,000 bytes; the 64 constants stand where the program's text lays them.
-/
import Derived.Test.YthafeccfcnmefaaDoorMacFinish
import Derived.Test.YthafeccfcnmefaaDoorMark
import Derived.Deep.RegionWith
import Derived.Deep.RegionHeld3
namespace Go.Proofs.YthafeccfcnmefaaDoor
open Go.RowKit ShaMath TextNat

theorem start_of (w : World) (C : Array Value) (hC : C = (natVals .u32 r0.list).toArray) : Calls Tryd.prog 29 #[] w fun e w' => e = .returned (.agg C) ∧ Below w.heap.size w w' := by
  rw [hC]
  exact start_any w
theorem finish_of (p : List Nat) (np : Nat) (h : Regs) (s : ByteArray) (w : World) (hp : p.length = 64 * np) (hh : h = run r0 p np) (hs : p.length + s.size ≤ 20000) (hpp : Parts w) (C : Array Value) (hC : C = (natVals .u32 h.list).toArray) (n : Int) (hn : n = (p.length : Int)) (o : ByteArray) (ho : o = txt (digest (p ++ nats s))) :
    Calls Tryd.prog 27 #[.agg C, .int .i64 n, .string s] w fun e w' => e = .returned (.string o) ∧ Below w.heap.size w w' := by
  rw [hC, hn, ho]
  exact finish_any p np h s w hp hh hs hpp
theorem turned_of (k : List Nat) (c : Nat) (w : World) (hk : k.length = 64) (hlt : ∀ b ∈ k, b < 256) (hc : c < 256) (C D : Array Value) (hC : C = (natVals .u8 k).toArray) (hD : D = (natVals .u8 (k.map (· ^^^ c))).toArray) (n : Int) (hn : n = (c : Int)) :
    Calls Tryd.prog 30 #[.agg C, .int .u8 n] w fun e w' => e = .returned (.agg D) ∧ Below w.heap.size w w' := by
  rw [hC, hD, hn]
  exact turned_any k c w hk hlt hc

theorem macDigest (s : ByteArray) (w : World) (hs : s.size ≤ 10000) (hp : Parts w) :
    Calls Tryd.prog 33 #[.string s] w fun e w' => e = .returned (.string (txt (digest (nats s)))) ∧ Below w.heap.size w w' := by
  obtain ⟨C, hC⟩ : ∃ C, C = (natVals .u32 r0.list).toArray := ⟨_, rfl⟩
  obtain ⟨o, ho⟩ : ∃ o, o = txt (digest (nats s)) := ⟨_, rfl⟩
  have HS := Lib.hid (start_of w C hC)
  have HF := Lib.hid (fun w2 (hp2 : Parts w2) => finish_of [] 0 r0 s w2 rfl rfl (by simp; omega) hp2 C hC 0 rfl o ho)
  have HP := Lib.hid hp
  rw [← ho]
  clear hC ho hp
  go_enter Tryd.func33, Tryd.ntmps33
  go_wp2_with (first
    | (go_at_call 29; refine HS.out.mono ?_; rintro e w2 ⟨rfl, hb2⟩)
    | (go_at_call 27; refine (HF.out _ (HP.out.grown hb2)).mono ?_; rintro e w3 ⟨rfl, hb3⟩))
  go_ret
  exact ⟨rfl, hb2.trans (hb3.mono hb2.size)⟩

theorem pad64_turned (l : List Nat) (c : Nat) (h : l.length ≤ 64) : (pad64 l).map (· ^^^ c) = ShaMath.filled l c := by
  apply List.ext_getElem (by simp [pad64, filled_len]; omega)
  intro i h1 h2
  have hi : i < 64 := by rw [filled_len] at h2; exact h2
  simp only [ShaMath.filled, pad64, List.getElem_map, List.getElem_range]
  congr 1
  by_cases hil : i < l.length
  · rw [List.getElem_append_left hil]
    simp [List.getD, hil]
  · rw [List.getElem_append_right (by omega), List.getElem_replicate, List.getD_eq_getElem?_getD, List.getElem?_eq_none (by omega)]
    rfl
theorem pad64_lt {l : List Nat} (h : ∀ b ∈ l, b < 256) : ∀ b ∈ pad64 l, b < 256 := by
  intro b hb
  rcases List.mem_append.1 hb with h1 | h1
  · exact h b h1
  · rw [(List.mem_replicate.1 h1).2]; decide

set_option maxRecDepth 100000 in
set_option maxHeartbeats 4000000 in
theorem filled_short (key : ByteArray) (w : World) (hk : key.size ≤ 64) (C : Array Value) (hC : C = (natVals .u8 (pad64 (nats key))).toArray) :
    Calls Tryd.prog 26 #[.string key] w fun e w' => e = .returned (.agg C) ∧ Below w.heap.size w w' := by
  have t1 : decide ((64 : Int) < (key.size : Int)) = false := decide_eq_false (by omega)
  have t2 : decide (64 < key.size) = false := decide_eq_false (by omega)
  have hmin : min key.size 64 = key.size := Nat.min_eq_left hk
  have hCs : C.size = 64 := by rw [hC]; simp [natVals_len, pad64, nats_len]; omega
  have hC1 : C.all (·.oneCell') = true := by rw [hC]; exact natVals_one _ _
  have hCC : C = (natVals .u8 ((nats key).take 64 ++ (List.replicate 64 0).drop key.size)).toArray := by
    rw [hC, List.take_of_length_le (by rw [nats_len]; exact hk), List.drop_replicate]
    unfold pad64
    rw [nats_len]
  have Z0 := (Arr.new w 69 .u8 (List.replicate 64 0)).alloc (.cells (natVals .u8 (List.replicate 64 0)).toArray 69)
  have Z1 := Arr.new (w.alloc (.cells (natVals .u8 (List.replicate 64 0)).toArray 69)) 69 .u8 (List.replicate 64 0)
  rw [World.size_alloc] at Z1
  have ZB := ((Below.refl w.heap.size w).alloc (Nat.le_refl _) (.cells (natVals .u8 (List.replicate 64 0)).toArray 69)).alloc (by simp) (.cells (natVals .u8 (List.replicate 64 0)).toArray 69)
  have Y1 := setRow_heap _ (w.heap.size + 1) _ C _ _ Z1
  have Y0 := (setRow_other _ (w.heap.size + 1) w.heap.size C (by omega)).trans Z0
  have X0 := setRow_heap _ w.heap.size _ C _ _ Y0
  have XB := below_setRow (below_setRow ZB (show w.heap.size ≤ w.heap.size + 1 by omega) C) (Nat.le_refl _) C
  have HZ1 := Lib.hid Z1
  have HY1 := Lib.hid Y1
  have HY0 := Lib.hid Y0
  have HX0 := Lib.hid X0
  have HXB := Lib.hid XB
  have HCC := Lib.hid hCC
  clear Z0 Z1 ZB Y1 Y0 X0 XB hCC hC
  go_enter Tryd.func26, Tryd.ntmps26
  go_wp2_with (first
    | (refine wpList_copy_text_to rfl _ _ 51 9 rfl 5 Tryd.underlying51 infoByte (w.heap.size + 1) 64 64 key rfl rfl 69 (List.replicate 64 0) HZ1.out (by simp) key.size hmin C HCC.out ?_)
    | (refine wpList_load_row rfl 69 _ rfl (w.heap.size + 1) rfl 69 C (0, 0) _ HY1.out Tryd.underlying69 rfl (by rw [hCs]; exact infoArr64) ?_)
    | (refine wpList_store_row rfl 69 _ _ rfl w.heap.size C rfl rfl 69 _ HY0.out (by rw [hCs]; exact infoArr64) (by rw [hCs]; simp [natVals_len]) hC1 ?_))
  refine bodyPost_ret (results_cell_row Tryd.results26 _ _ w.heap.size 69 C (0, 0) _ rfl HX0.out Tryd.underlying69 rfl (by rw [hCs]; exact infoArr64)) rfl ?_
  exact ⟨rfl, HXB.out⟩

set_option maxRecDepth 100000 in
set_option maxHeartbeats 4000000 in
theorem filled_long (key0 : ByteArray) (w : World) (hk0 : 64 < key0.size) (hk1 : key0.size ≤ 5000) (hp : Parts w) (C : Array Value) (hC0 : C = (natVals .u8 (pad64 (digest (nats key0)))).toArray) :
    Calls Tryd.prog 26 #[.string key0] w fun e w' => e = .returned (.agg C) ∧ Below w.heap.size w w' := by
  have t1 : decide ((64 : Int) < (key0.size : Int)) = true := decide_eq_true (by omega)
  have t2 : decide (64 < key0.size) = true := decide_eq_true (by omega)
  obtain ⟨key, hkey⟩ : ∃ key, key = txt (digest (nats key0)) := ⟨_, rfl⟩
  have hk : key.size ≤ 64 := by rw [hkey, txt_len, digest_len]; decide
  have hC : C = (natVals .u8 (pad64 (nats key))).toArray := by rw [hC0, hkey, nats_txt _ (digest_lt _)]
  have hbz := (Below.refl w.heap.size w).alloc (Nat.le_refl _) (.cells (natVals .u8 (List.replicate 64 0)).toArray 69)
  have HD := Lib.hid (macDigest key0 (w.alloc (.cells (natVals .u8 (List.replicate 64 0)).toArray 69)) (by omega) (hp.grown hbz))
  rw [← hkey] at HD
  clear hkey hC0 hp hbz
  go_enter Tryd.func26, Tryd.ntmps26
  go_wp2_with fail
  refine HD.out.mono ?_
  rintro e w1 ⟨rfl, hb1⟩
  have hmin : min key.size 64 = key.size := Nat.min_eq_left hk
  have hCs : C.size = 64 := by rw [hC]; simp [natVals_len, pad64, nats_len]; omega
  have hC1 : C.all (·.oneCell') = true := by rw [hC]; exact natVals_one _ _
  have hCC : C = (natVals .u8 ((nats key).take 64 ++ (List.replicate 64 0).drop key.size)).toArray := by
    rw [hC, List.take_of_length_le (by rw [nats_len]; exact hk), List.drop_replicate]
    unfold pad64
    rw [nats_len]
  have hbs := hb1.size
  rw [World.size_alloc] at hbs
  have Z0 := ((Arr.new w 69 .u8 (List.replicate 64 0)).kept hb1 (by simp)).alloc (.cells (natVals .u8 (List.replicate 64 0)).toArray 69)
  have Z1 := Arr.new w1 69 .u8 (List.replicate 64 0)
  have ZB := (((Below.refl w.heap.size w).alloc (Nat.le_refl _) (.cells (natVals .u8 (List.replicate 64 0)).toArray 69)).trans (hb1.mono (by simp))).alloc (by omega) (.cells (natVals .u8 (List.replicate 64 0)).toArray 69)
  have Y1 := setRow_heap _ (w1.heap.size) _ C _ _ Z1
  have Y0 := (setRow_other _ (w1.heap.size) w.heap.size C (by omega)).trans Z0
  have X0 := setRow_heap _ w.heap.size _ C _ _ Y0
  have XB := below_setRow (below_setRow ZB (show w.heap.size ≤ w1.heap.size by omega) C) (Nat.le_refl _) C
  have HZ1 := Lib.hid Z1
  have HY1 := Lib.hid Y1
  have HY0 := Lib.hid Y0
  have HX0 := Lib.hid X0
  have HXB := Lib.hid XB
  have HCC := Lib.hid hCC
  clear Z0 Z1 ZB Y1 Y0 X0 XB hCC hC
  go_wp2_with (first
    | (refine wpList_copy_text_to rfl _ _ 51 9 rfl 5 Tryd.underlying51 infoByte (w1.heap.size) 64 64 key rfl rfl 69 (List.replicate 64 0) HZ1.out (by simp) key.size hmin C HCC.out ?_)
    | (refine wpList_load_row rfl 69 _ rfl (w1.heap.size) rfl 69 C (0, 0) _ HY1.out Tryd.underlying69 rfl (by rw [hCs]; exact infoArr64) ?_)
    | (refine wpList_store_row rfl 69 _ _ rfl w.heap.size C rfl rfl 69 _ HY0.out (by rw [hCs]; exact infoArr64) (by rw [hCs]; simp [natVals_len]) hC1 ?_))
  refine bodyPost_ret (results_cell_row Tryd.results26 _ _ w.heap.size 69 C (0, 0) _ rfl HX0.out Tryd.underlying69 rfl (by rw [hCs]; exact infoArr64)) rfl ?_
  exact ⟨rfl, HXB.out⟩

theorem filled_any (key : ByteArray) (w : World) (hk : key.size ≤ 5000) (hp : Parts w) (C : Array Value) (hC : C = (natVals .u8 (pad64 (short (nats key)))).toArray) :
    Calls Tryd.prog 26 #[.string key] w fun e w' => e = .returned (.agg C) ∧ Below w.heap.size w w' := by
  by_cases h : 64 < key.size
  · refine filled_long key w h hk hp C ?_
    rw [hC]
    unfold short
    rw [if_pos (by rw [nats_len]; exact h)]
  · refine filled_short key w (by omega) C ?_
    rw [hC]
    unfold short
    rw [if_neg (by rw [nats_len]; exact h)]

theorem keepS {W1 w w' : World} {G : Nat} {KL : List Value} (h : Below W1.heap.size W1 w ∧ w.rangeAt G 0 KL) (hb : Below w.heap.size w w') : Below W1.heap.size W1 w' ∧ w'.rangeAt G 0 KL :=
  ⟨h.1.trans (hb.mono h.1.size), fun j v hj => (hb.cell (p := ⟨G, 0 + j, none⟩) (World.block_lt_of_cell? w _ (h.2 j v hj))).trans (h.2 j v hj)⟩
theorem partsOf {W1 w : World} {G : Nat} {KL : List Value} (hp : Parts W1) (h : Below W1.heap.size W1 w ∧ w.rangeAt G 0 KL) : Parts w := hp.grown h.1
theorem keepD {W1 w : World} {G : Nat} {KL : List Value} (h : Below W1.heap.size W1 w ∧ w.rangeAt G 0 KL) : Below W1.heap.size W1 w.drew ∧ w.drew.rangeAt G 0 KL := ⟨h.1.drew, (World.rangeAt_drew _ _ _ _).2 h.2⟩

set_option maxHeartbeats 4000000 in
theorem macTag (key s : ByteArray) (w : World) (hk : key.size ≤ 5000) (hs : s.size ≤ 5000) (hp : Parts w) :
    Calls Tryd.prog 24 #[.string key, .string s] w fun e w' => e = .returned (.string (txt (tag (nats key) (nats s)))) ∧ Below w.heap.size w w' := by
  obtain ⟨l, hl⟩ : ∃ l, l = short (nats key) := ⟨_, rfl⟩
  have hll : l.length ≤ 64 := by rw [hl]; exact short_len _
  have hlt : ∀ b ∈ l, b < 256 := by rw [hl]; exact short_lt (nats_lt key)
  have hpl : (pad64 l).length = 64 := pad64_len l hll
  have hpt := pad64_lt hlt
  obtain ⟨K, hK⟩ : ∃ K, K = (natVals .u8 (pad64 l)).toArray := ⟨_, rfl⟩
  obtain ⟨KL, hKL⟩ : ∃ KL, KL = natVals .u8 (pad64 l) := ⟨_, rfl⟩
  have hKL2 : K = KL.toArray := by rw [hK, hKL]
  have hKLl : KL.length = 64 := by rw [hKL, natVals_len, hpl]
  have hKsz : K.size = 64 := by rw [hK]; simp [natVals_len, hpl]
  have hK1 : K.all (·.oneCell') = true := by rw [hK]; exact natVals_one _ _
  obtain ⟨R0, hR0⟩ : ∃ C, C = (natVals .u32 r0.list).toArray := ⟨_, rfl⟩
  obtain ⟨F1, hF1⟩ : ∃ C, C = (natVals .u8 (ShaMath.filled l 54)).toArray := ⟨_, rfl⟩
  obtain ⟨F2, hF2⟩ : ∃ C, C = (natVals .u8 (ShaMath.filled l 92)).toArray := ⟨_, rfl⟩
  obtain ⟨M1, hM1⟩ : ∃ C, C = (natVals .u32 (mixN r0 (ShaMath.filled l 54)).list).toArray := ⟨_, rfl⟩
  obtain ⟨M2, hM2⟩ : ∃ C, C = (natVals .u32 (mixN r0 (ShaMath.filled l 92)).list).toArray := ⟨_, rfl⟩
  obtain ⟨I, hI⟩ : ∃ I, I = txt (digest (ShaMath.filled l 54 ++ nats s)) := ⟨_, rfl⟩
  have hIs : I.size = 32 := by rw [hI, txt_len, digest_len]
  have hIn : nats I = digest (ShaMath.filled l 54 ++ nats s) := by rw [hI, nats_txt _ (digest_lt _)]
  obtain ⟨o, ho⟩ : ∃ o, o = txt (digest (ShaMath.filled l 92 ++ nats I)) := ⟨_, rfl⟩
  have hot : txt (tag (nats key) (nats s)) = o := by
    rw [ho, hIn, hl]
    rfl
  have f1 : (ShaMath.filled l 54).length = 64 * 1 := filled_len l 54
  have f2 : (ShaMath.filled l 92).length = 64 * 1 := filled_len l 92
  have L1 := Lib.hid (fun w2 (hp2 : Parts w2) => filled_any key w2 hk hp2 K (by rw [hK, hl]))
  have L2 := Lib.hid (fun w2 => start_of w2 R0 hR0)
  have L3 := Lib.hid (fun w2 => turned_of (pad64 l) 54 w2 hpl hpt (by decide) KL.toArray F1 (by rw [hKL]) (by rw [hF1, pad64_turned l 54 hll]) 54 rfl)
  have L4 := Lib.hid (fun w2 => turned_of (pad64 l) 92 w2 hpl hpt (by decide) KL.toArray F2 (by rw [hKL]) (by rw [hF2, pad64_turned l 92 hll]) 92 rfl)
  have L5 := Lib.hid (fun w2 (hp2 : Parts w2) => mix_of r0 r0_ok (ShaMath.filled l 54) w2 (filled_len l 54) (filled_lt hlt (by decide)) hp2 R0 F1 M1 hR0 hF1 hM1)
  have L6 := Lib.hid (fun w2 (hp2 : Parts w2) => mix_of r0 r0_ok (ShaMath.filled l 92) w2 (filled_len l 92) (filled_lt hlt (by decide)) hp2 R0 F2 M2 hR0 hF2 hM2)
  have L7 := Lib.hid (fun w2 (hp2 : Parts w2) => finish_of (ShaMath.filled l 54) 1 (mixN r0 (ShaMath.filled l 54)) s w2 f1 (run_one r0 _ f1).symm (by omega) hp2 M1 hM1 64 (by rw [f1]; rfl) I hI)
  have L8 := Lib.hid (fun w2 (hp2 : Parts w2) => finish_of (ShaMath.filled l 92) 1 (mixN r0 (ShaMath.filled l 92)) I w2 f2 (run_one r0 _ f2).symm (by omega) hp2 M2 hM2 64 (by rw [f2]; rfl) o ho)
  have HP := Lib.hid hp
  have hKsub := hKL2
  subst hKsub
  rw [hot]
  clear hKL2 hKL hl hll hlt hpl hpt hK hR0 hF1 hF2 hM1 hM2 hI hIn ho hot f1 f2 hp
  go_enter Tryd.func24, Tryd.ntmps24
  go_wp2_with fail
  refine (L1.out _ HP.out).mono ?_
  rintro e w1 ⟨rfl, hb1⟩
  have hKs : KL.toArray.size = 64 := hKsz
  have B1 : Below w.heap.size w ((w1.alloc (.cells (natVals .u8 (List.replicate 64 0)).toArray 69)).setRow w1.heap.size KL.toArray) := below_setRow (hb1.alloc hb1.size _) hb1.size KL.toArray
  have A1 : ((w1.alloc (.cells (natVals .u8 (List.replicate 64 0)).toArray 69)).setRow w1.heap.size KL.toArray).heap[w1.heap.size]? = some (.cells KL.toArray 69 (0, 0)) := setRow_heap _ _ _ KL.toArray _ _ (heap_alloc_new w1 _)
  obtain ⟨W1, hW1⟩ : ∃ W1, W1 = (w1.alloc (.cells (natVals .u8 (List.replicate 64 0)).toArray 69)).setRow w1.heap.size KL.toArray := ⟨_, rfl⟩
  obtain ⟨G, hG⟩ : ∃ G, G = w1.heap.size := ⟨_, rfl⟩
  rw [← hW1] at B1 A1
  rw [← hG] at A1
  have HW1 := Lib.hid hW1
  have HG := Lib.hid hG
  have hg1 : G < W1.heap.size := (Array.getElem?_eq_some_iff.1 A1).1
  have HB1 := Lib.hid B1
  have HA1 := Lib.hid A1
  clear hb1 hW1 hG B1 A1
  have hg1 : W1.heap[G]? = some (.cells KL.toArray 69 (0, 0)) := HA1.out
  have hrg : W1.rangeAt G 0 KL := by
    intro j v hj
    rw [cell_of_row W1 G (0 + j) KL.toArray _ _ hg1, Nat.zero_add]
    simpa using hj
  have HRG := Lib.hid hrg
  have HPW := Lib.hid (HP.out.grown HB1.out)

  clear hg1 hrg
  go_wp2_with (refine wpList_store_row rfl 69 _ _ rfl w1.heap.size KL.toArray rfl rfl 69 _ (heap_alloc_new w1 _) (by rw [hKs]; exact infoArr64) (by rw [hKs]; rfl) hK1 ?_)
  have hput : ∀ (a : Act) (v : Value), a.put none v = a := fun _ _ => rfl
  try rw [hput]
  change Code.wp Tryd.prog _ _ _ ((w1.alloc (.cells (natVals .u8 (List.replicate 64 0)).toArray 69)).setRow w1.heap.size KL.toArray)
  rw [← HW1.out, ← HG.out]
  have hu : Tryd.prog.underlying 69 = some (.array 64 5) := Tryd.underlying69
  have hi : (Tryd.prog.info? 69).map (·.size) = some KL.length := by rw [hKLl]; exact infoArr64
  have hb0 : Below W1.heap.size W1 W1 := Below.refl _ _
  have hr0 := HRG.out
  go_region_held3 (fun w' => Below W1.heap.size W1 w' ∧ w'.rangeAt G 0 KL) (first | (refine keepS ?_ hbb; assumption) | exact keepD (by assumption) | exact keepD ⟨hb0, hr0⟩)
    (first
      | (go_at_call 29; refine (L2.out _).mono ?_; rintro e wn ⟨rfl, hbb⟩)
      | (go_at_call 30; refine (L3.out _).mono ?_; rintro e wn ⟨rfl, hbb⟩)
      | (go_at_call 28; refine (L5.out _ (partsOf HPW.out (by assumption) (G := G) (KL := KL))).mono ?_; rintro e wn ⟨rfl, hbb⟩)
      | (go_at_call 27; refine (L7.out _ (partsOf HPW.out (by assumption) (G := G) (KL := KL))).mono ?_; rintro e wn ⟨rfl, hbb⟩))
  have hz : Below W1.heap.size W1 wn ∧ wn.rangeAt G 0 KL := by assumption
  obtain ⟨w5, hw5⟩ : ∃ w5, w5 = wn := ⟨_, rfl⟩
  rw [← hw5] at hz ⊢
  clear hw5
  go_wp2_with fail
  go_region_held3 (fun w' => Below W1.heap.size W1 w' ∧ w'.rangeAt G 0 KL) (first | exact keepD hz | (refine keepS ?_ hbb; assumption))
    (first
      | (go_at_call 29; refine (L2.out _).mono ?_; rintro e wn ⟨rfl, hbb⟩)
      | (go_at_call 30; refine (L4.out _).mono ?_; rintro e wn ⟨rfl, hbb⟩)
      | (go_at_call 28; refine (L6.out _ (partsOf HPW.out (by assumption) (G := G) (KL := KL))).mono ?_; rintro e wn ⟨rfl, hbb⟩)
      | (go_at_call 27; refine (L8.out _ (partsOf HPW.out (by assumption) (G := G) (KL := KL))).mono ?_; rintro e wn ⟨rfl, hbb⟩))
  have hz9 : Below W1.heap.size W1 wn ∧ wn.rangeAt G 0 KL := by assumption
  go_wp2
  go_ret
  exact ⟨rfl, HB1.out.trans (hz9.1.mono HB1.out.size)⟩

end Go.Proofs.YthafeccfcnmefaaDoor
