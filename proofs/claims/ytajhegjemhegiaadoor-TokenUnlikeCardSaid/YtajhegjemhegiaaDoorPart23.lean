/-
  Texts of one claim, merged.
  MacTag: The contracts of mac's Digest, filled, Tag and Derive: the standard's digest and tag, the key of a number; old memory is as it was. The conditions: texts of at most 5,000 bytes; the 64 constants stand where the program's text lays them.
  MacDerive: The contract of mac's Derive: the key of a number; old memory is as it was. The conditions: a master of at most 5,000 bytes; the 64 constants stand where the program's text lays them.
  RingProg1: How the program's ring of chapter 11 lies in memory, and its functions' contracts. The conditions: mac's table.
-/
import Derived.Test.YtajhegjemhegiaaDoorMacFinish
import Derived.Test.YtajhegjemhegiaaDoorPart13
import Derived.Deep.RegionWith
import Derived.Deep.RegionHeld3
import Derived.Lib.SlBytesConst
import Derived.Test.YtajhegjemhegiaaDoorPart20
import Derived.Test.YtajhegjemhegiaaDoorPart06
import Derived.Test.YtajhegjemhegiaaDoorPart18
import Derived.Test.YtajhegjemhegiaaDoorClone
namespace Go.Proofs.YtajhegjemhegiaaDoor
open Go.RowKit ShaMath TextNat

theorem start_of (w : World) (C : Array Value) (hC : C = (natVals .u32 r0.list).toArray) : Calls Tryd.prog 61 #[] w fun e w' => e = .returned (.agg C) ∧ Below w.heap.size w w' := by
  rw [hC]
  exact start_any w
theorem finish_of (p : List Nat) (np : Nat) (h : Regs) (s : ByteArray) (w : World) (hp : p.length = 64 * np) (hh : h = run r0 p np) (hs : p.length + s.size ≤ 20000) (hpp : Parts w) (C : Array Value) (hC : C = (natVals .u32 h.list).toArray) (n : Int) (hn : n = (p.length : Int)) (o : ByteArray) (ho : o = txt (digest (p ++ nats s))) :
    Calls Tryd.prog 59 #[.agg C, .int .i64 n, .string s] w fun e w' => e = .returned (.string o) ∧ Below w.heap.size w w' := by
  rw [hC, hn, ho]
  exact finish_any p np h s w hp hh hs hpp
theorem turned_of (k : List Nat) (c : Nat) (w : World) (hk : k.length = 64) (hlt : ∀ b ∈ k, b < 256) (hc : c < 256) (C D : Array Value) (hC : C = (natVals .u8 k).toArray) (hD : D = (natVals .u8 (k.map (· ^^^ c))).toArray) (n : Int) (hn : n = (c : Int)) :
    Calls Tryd.prog 62 #[.agg C, .int .u8 n] w fun e w' => e = .returned (.agg D) ∧ Below w.heap.size w w' := by
  rw [hC, hD, hn]
  exact turned_any k c w hk hlt hc

theorem macDigest (s : ByteArray) (w : World) (hs : s.size ≤ 10000) (hp : Parts w) :
    Calls Tryd.prog 77 #[.string s] w fun e w' => e = .returned (.string (txt (digest (nats s)))) ∧ Below w.heap.size w w' := by
  obtain ⟨C, hC⟩ : ∃ C, C = (natVals .u32 r0.list).toArray := ⟨_, rfl⟩
  obtain ⟨o, ho⟩ : ∃ o, o = txt (digest (nats s)) := ⟨_, rfl⟩
  have HS := Lib.hid (start_of w C hC)
  have HF := Lib.hid (fun w2 (hp2 : Parts w2) => finish_of [] 0 r0 s w2 rfl rfl (by simp; omega) hp2 C hC 0 rfl o ho)
  have HP := Lib.hid hp
  rw [← ho]
  clear hC ho hp
  go_enter Tryd.func77, Tryd.ntmps77
  go_wp2_with (first
    | (go_at_call 61; refine HS.out.mono ?_; rintro e w2 ⟨rfl, hb2⟩)
    | (go_at_call 59; refine (HF.out _ (HP.out.grown hb2)).mono ?_; rintro e w3 ⟨rfl, hb3⟩))
  go_ret
  exact ⟨rfl, hb2.trans (hb3.mono hb2.size)⟩

theorem pad64_turned (l : List Nat) (c : Nat) (h : l.length ≤ 64) : (pad64 l).map (· ^^^ c) = ShaMath.filled l c := by
  apply List.ext_getElem (by simp [pad64, filled_len]; omega)
  intro i h1 h2
  have hi : i < 64 := by rw [filled_len] at h2; exact h2
  simp only [ShaMath.filled, pad64, List.getElem_map, List.getElem_range]
  congr 1
  by_cases hil : i < l.length
  · rw [List.getElem_append_left hil]
    simp [List.getD, hil]
  · rw [List.getElem_append_right (by omega), List.getElem_replicate, List.getD_eq_getElem?_getD, List.getElem?_eq_none (by omega)]
    rfl
theorem pad64_lt {l : List Nat} (h : ∀ b ∈ l, b < 256) : ∀ b ∈ pad64 l, b < 256 := by
  intro b hb
  rcases List.mem_append.1 hb with h1 | h1
  · exact h b h1
  · rw [(List.mem_replicate.1 h1).2]; decide

set_option maxRecDepth 100000 in
set_option maxHeartbeats 4000000 in
theorem filled_short (key : ByteArray) (w : World) (hk : key.size ≤ 64) (C : Array Value) (hC : C = (natVals .u8 (pad64 (nats key))).toArray) :
    Calls Tryd.prog 58 #[.string key] w fun e w' => e = .returned (.agg C) ∧ Below w.heap.size w w' := by
  have t1 : decide ((64 : Int) < (key.size : Int)) = false := decide_eq_false (by omega)
  have t2 : decide (64 < key.size) = false := decide_eq_false (by omega)
  have hmin : min key.size 64 = key.size := Nat.min_eq_left hk
  have hCs : C.size = 64 := by rw [hC]; simp [natVals_len, pad64, nats_len]; omega
  have hC1 : C.all (·.oneCell') = true := by rw [hC]; exact natVals_one _ _
  have hCC : C = (natVals .u8 ((nats key).take 64 ++ (List.replicate 64 0).drop key.size)).toArray := by
    rw [hC, List.take_of_length_le (by rw [nats_len]; exact hk), List.drop_replicate]
    unfold pad64
    rw [nats_len]
  have Z0 := (Arr.new w 113 .u8 (List.replicate 64 0)).alloc (.cells (natVals .u8 (List.replicate 64 0)).toArray 113)
  have Z1 := Arr.new (w.alloc (.cells (natVals .u8 (List.replicate 64 0)).toArray 113)) 113 .u8 (List.replicate 64 0)
  rw [World.size_alloc] at Z1
  have ZB := ((Below.refl w.heap.size w).alloc (Nat.le_refl _) (.cells (natVals .u8 (List.replicate 64 0)).toArray 113)).alloc (by simp) (.cells (natVals .u8 (List.replicate 64 0)).toArray 113)
  have Y1 := setRow_heap _ (w.heap.size + 1) _ C _ _ Z1
  have Y0 := (setRow_other _ (w.heap.size + 1) w.heap.size C (by omega)).trans Z0
  have X0 := setRow_heap _ w.heap.size _ C _ _ Y0
  have XB := below_setRow (below_setRow ZB (show w.heap.size ≤ w.heap.size + 1 by omega) C) (Nat.le_refl _) C
  have HZ1 := Lib.hid Z1
  have HY1 := Lib.hid Y1
  have HY0 := Lib.hid Y0
  have HX0 := Lib.hid X0
  have HXB := Lib.hid XB
  have HCC := Lib.hid hCC
  clear Z0 Z1 ZB Y1 Y0 X0 XB hCC hC
  go_enter Tryd.func58, Tryd.ntmps58
  go_wp2_with (first
    | (refine wpList_copy_text_to rfl _ _ 43 9 rfl 5 Tryd.underlying43 infoByte (w.heap.size + 1) 64 64 key rfl rfl 113 (List.replicate 64 0) HZ1.out (by simp) key.size hmin C HCC.out ?_)
    | (refine wpList_load_row rfl 113 _ rfl (w.heap.size + 1) rfl 113 C (0, 0) _ HY1.out Tryd.underlying113 rfl (by rw [hCs]; exact infoArr64) ?_)
    | (refine wpList_store_row rfl 113 _ _ rfl w.heap.size C rfl rfl 113 _ HY0.out (by rw [hCs]; exact infoArr64) (by rw [hCs]; simp [natVals_len]) hC1 ?_))
  refine bodyPost_ret (results_cell_row Tryd.results58 _ _ w.heap.size 113 C (0, 0) _ rfl HX0.out Tryd.underlying113 rfl (by rw [hCs]; exact infoArr64)) rfl ?_
  exact ⟨rfl, HXB.out⟩

set_option maxRecDepth 100000 in
set_option maxHeartbeats 4000000 in
theorem filled_long (key0 : ByteArray) (w : World) (hk0 : 64 < key0.size) (hk1 : key0.size ≤ 5000) (hp : Parts w) (C : Array Value) (hC0 : C = (natVals .u8 (pad64 (digest (nats key0)))).toArray) :
    Calls Tryd.prog 58 #[.string key0] w fun e w' => e = .returned (.agg C) ∧ Below w.heap.size w w' := by
  have t1 : decide ((64 : Int) < (key0.size : Int)) = true := decide_eq_true (by omega)
  have t2 : decide (64 < key0.size) = true := decide_eq_true (by omega)
  obtain ⟨key, hkey⟩ : ∃ key, key = txt (digest (nats key0)) := ⟨_, rfl⟩
  have hk : key.size ≤ 64 := by rw [hkey, txt_len, digest_len]; decide
  have hC : C = (natVals .u8 (pad64 (nats key))).toArray := by rw [hC0, hkey, nats_txt _ (digest_lt _)]
  have hbz := (Below.refl w.heap.size w).alloc (Nat.le_refl _) (.cells (natVals .u8 (List.replicate 64 0)).toArray 113)
  have HD := Lib.hid (macDigest key0 (w.alloc (.cells (natVals .u8 (List.replicate 64 0)).toArray 113)) (by omega) (hp.grown hbz))
  rw [← hkey] at HD
  clear hkey hC0 hp hbz
  go_enter Tryd.func58, Tryd.ntmps58
  go_wp2_with fail
  refine HD.out.mono ?_
  rintro e w1 ⟨rfl, hb1⟩
  have hmin : min key.size 64 = key.size := Nat.min_eq_left hk
  have hCs : C.size = 64 := by rw [hC]; simp [natVals_len, pad64, nats_len]; omega
  have hC1 : C.all (·.oneCell') = true := by rw [hC]; exact natVals_one _ _
  have hCC : C = (natVals .u8 ((nats key).take 64 ++ (List.replicate 64 0).drop key.size)).toArray := by
    rw [hC, List.take_of_length_le (by rw [nats_len]; exact hk), List.drop_replicate]
    unfold pad64
    rw [nats_len]
  have hbs := hb1.size
  rw [World.size_alloc] at hbs
  have Z0 := ((Arr.new w 113 .u8 (List.replicate 64 0)).kept hb1 (by simp)).alloc (.cells (natVals .u8 (List.replicate 64 0)).toArray 113)
  have Z1 := Arr.new w1 113 .u8 (List.replicate 64 0)
  have ZB := (((Below.refl w.heap.size w).alloc (Nat.le_refl _) (.cells (natVals .u8 (List.replicate 64 0)).toArray 113)).trans (hb1.mono (by simp))).alloc (by omega) (.cells (natVals .u8 (List.replicate 64 0)).toArray 113)
  have Y1 := setRow_heap _ (w1.heap.size) _ C _ _ Z1
  have Y0 := (setRow_other _ (w1.heap.size) w.heap.size C (by omega)).trans Z0
  have X0 := setRow_heap _ w.heap.size _ C _ _ Y0
  have XB := below_setRow (below_setRow ZB (show w.heap.size ≤ w1.heap.size by omega) C) (Nat.le_refl _) C
  have HZ1 := Lib.hid Z1
  have HY1 := Lib.hid Y1
  have HY0 := Lib.hid Y0
  have HX0 := Lib.hid X0
  have HXB := Lib.hid XB
  have HCC := Lib.hid hCC
  clear Z0 Z1 ZB Y1 Y0 X0 XB hCC hC
  go_wp2_with (first
    | (refine wpList_copy_text_to rfl _ _ 43 9 rfl 5 Tryd.underlying43 infoByte (w1.heap.size) 64 64 key rfl rfl 113 (List.replicate 64 0) HZ1.out (by simp) key.size hmin C HCC.out ?_)
    | (refine wpList_load_row rfl 113 _ rfl (w1.heap.size) rfl 113 C (0, 0) _ HY1.out Tryd.underlying113 rfl (by rw [hCs]; exact infoArr64) ?_)
    | (refine wpList_store_row rfl 113 _ _ rfl w.heap.size C rfl rfl 113 _ HY0.out (by rw [hCs]; exact infoArr64) (by rw [hCs]; simp [natVals_len]) hC1 ?_))
  refine bodyPost_ret (results_cell_row Tryd.results58 _ _ w.heap.size 113 C (0, 0) _ rfl HX0.out Tryd.underlying113 rfl (by rw [hCs]; exact infoArr64)) rfl ?_
  exact ⟨rfl, HXB.out⟩

theorem filled_any (key : ByteArray) (w : World) (hk : key.size ≤ 5000) (hp : Parts w) (C : Array Value) (hC : C = (natVals .u8 (pad64 (short (nats key)))).toArray) :
    Calls Tryd.prog 58 #[.string key] w fun e w' => e = .returned (.agg C) ∧ Below w.heap.size w w' := by
  by_cases h : 64 < key.size
  · refine filled_long key w h hk hp C ?_
    rw [hC]
    unfold short
    rw [if_pos (by rw [nats_len]; exact h)]
  · refine filled_short key w (by omega) C ?_
    rw [hC]
    unfold short
    rw [if_neg (by rw [nats_len]; exact h)]

theorem keepS {W1 w w' : World} {G : Nat} {KL : List Value} (h : Below W1.heap.size W1 w ∧ w.rangeAt G 0 KL) (hb : Below w.heap.size w w') : Below W1.heap.size W1 w' ∧ w'.rangeAt G 0 KL :=
  ⟨h.1.trans (hb.mono h.1.size), fun j v hj => (hb.cell (p := ⟨G, 0 + j, none⟩) (World.block_lt_of_cell? w _ (h.2 j v hj))).trans (h.2 j v hj)⟩
theorem partsOf {W1 w : World} {G : Nat} {KL : List Value} (hp : Parts W1) (h : Below W1.heap.size W1 w ∧ w.rangeAt G 0 KL) : Parts w := hp.grown h.1
theorem keepD {W1 w : World} {G : Nat} {KL : List Value} (h : Below W1.heap.size W1 w ∧ w.rangeAt G 0 KL) : Below W1.heap.size W1 w.drew ∧ w.drew.rangeAt G 0 KL := ⟨h.1.drew, (World.rangeAt_drew _ _ _ _).2 h.2⟩

set_option maxRecDepth 100000 in
set_option maxHeartbeats 4000000 in
theorem macTag (key s : ByteArray) (w : World) (hk : key.size ≤ 5000) (hs : s.size ≤ 5000) (hp : Parts w) :
    Calls Tryd.prog 40 #[.string key, .string s] w fun e w' => e = .returned (.string (txt (tag (nats key) (nats s)))) ∧ Below w.heap.size w w' := by
  obtain ⟨l, hl⟩ : ∃ l, l = short (nats key) := ⟨_, rfl⟩
  have hll : l.length ≤ 64 := by rw [hl]; exact short_len _
  have hlt : ∀ b ∈ l, b < 256 := by rw [hl]; exact short_lt (nats_lt key)
  have hpl : (pad64 l).length = 64 := pad64_len l hll
  have hpt := pad64_lt hlt
  obtain ⟨K, hK⟩ : ∃ K, K = (natVals .u8 (pad64 l)).toArray := ⟨_, rfl⟩
  obtain ⟨KL, hKL⟩ : ∃ KL, KL = natVals .u8 (pad64 l) := ⟨_, rfl⟩
  have hKL2 : K = KL.toArray := by rw [hK, hKL]
  have hKLl : KL.length = 64 := by rw [hKL, natVals_len, hpl]
  have hKsz : K.size = 64 := by rw [hK]; simp [natVals_len, hpl]
  have hK1 : K.all (·.oneCell') = true := by rw [hK]; exact natVals_one _ _
  obtain ⟨R0, hR0⟩ : ∃ C, C = (natVals .u32 r0.list).toArray := ⟨_, rfl⟩
  obtain ⟨F1, hF1⟩ : ∃ C, C = (natVals .u8 (ShaMath.filled l 54)).toArray := ⟨_, rfl⟩
  obtain ⟨F2, hF2⟩ : ∃ C, C = (natVals .u8 (ShaMath.filled l 92)).toArray := ⟨_, rfl⟩
  obtain ⟨M1, hM1⟩ : ∃ C, C = (natVals .u32 (mixN r0 (ShaMath.filled l 54)).list).toArray := ⟨_, rfl⟩
  obtain ⟨M2, hM2⟩ : ∃ C, C = (natVals .u32 (mixN r0 (ShaMath.filled l 92)).list).toArray := ⟨_, rfl⟩
  obtain ⟨I, hI⟩ : ∃ I, I = txt (digest (ShaMath.filled l 54 ++ nats s)) := ⟨_, rfl⟩
  have hIs : I.size = 32 := by rw [hI, txt_len, digest_len]
  have hIn : nats I = digest (ShaMath.filled l 54 ++ nats s) := by rw [hI, nats_txt _ (digest_lt _)]
  obtain ⟨o, ho⟩ : ∃ o, o = txt (digest (ShaMath.filled l 92 ++ nats I)) := ⟨_, rfl⟩
  have hot : txt (tag (nats key) (nats s)) = o := by
    rw [ho, hIn, hl]
    rfl
  have f1 : (ShaMath.filled l 54).length = 64 * 1 := filled_len l 54
  have f2 : (ShaMath.filled l 92).length = 64 * 1 := filled_len l 92
  have L1 := Lib.hid (fun w2 (hp2 : Parts w2) => filled_any key w2 hk hp2 K (by rw [hK, hl]))
  have L2 := Lib.hid (fun w2 => start_of w2 R0 hR0)
  have L3 := Lib.hid (fun w2 => turned_of (pad64 l) 54 w2 hpl hpt (by decide) KL.toArray F1 (by rw [hKL]) (by rw [hF1, pad64_turned l 54 hll]) 54 rfl)
  have L4 := Lib.hid (fun w2 => turned_of (pad64 l) 92 w2 hpl hpt (by decide) KL.toArray F2 (by rw [hKL]) (by rw [hF2, pad64_turned l 92 hll]) 92 rfl)
  have L5 := Lib.hid (fun w2 (hp2 : Parts w2) => mix_of r0 r0_ok (ShaMath.filled l 54) w2 (filled_len l 54) (filled_lt hlt (by decide)) hp2 R0 F1 M1 hR0 hF1 hM1)
  have L6 := Lib.hid (fun w2 (hp2 : Parts w2) => mix_of r0 r0_ok (ShaMath.filled l 92) w2 (filled_len l 92) (filled_lt hlt (by decide)) hp2 R0 F2 M2 hR0 hF2 hM2)
  have L7 := Lib.hid (fun w2 (hp2 : Parts w2) => finish_of (ShaMath.filled l 54) 1 (mixN r0 (ShaMath.filled l 54)) s w2 f1 (run_one r0 _ f1).symm (by omega) hp2 M1 hM1 64 (by rw [f1]; rfl) I hI)
  have L8 := Lib.hid (fun w2 (hp2 : Parts w2) => finish_of (ShaMath.filled l 92) 1 (mixN r0 (ShaMath.filled l 92)) I w2 f2 (run_one r0 _ f2).symm (by omega) hp2 M2 hM2 64 (by rw [f2]; rfl) o ho)
  have HP := Lib.hid hp
  have hKsub := hKL2
  subst hKsub
  rw [hot]
  clear hKL2 hKL hl hll hlt hpl hpt hK hR0 hF1 hF2 hM1 hM2 hI hIn ho hot f1 f2 hp
  go_enter Tryd.func40, Tryd.ntmps40
  go_wp2_with fail
  refine (L1.out _ HP.out).mono ?_
  rintro e w1 ⟨rfl, hb1⟩
  have hKs : KL.toArray.size = 64 := hKsz
  have B1 : Below w.heap.size w ((w1.alloc (.cells (natVals .u8 (List.replicate 64 0)).toArray 113)).setRow w1.heap.size KL.toArray) := below_setRow (hb1.alloc hb1.size _) hb1.size KL.toArray
  have A1 : ((w1.alloc (.cells (natVals .u8 (List.replicate 64 0)).toArray 113)).setRow w1.heap.size KL.toArray).heap[w1.heap.size]? = some (.cells KL.toArray 113 (0, 0)) := setRow_heap _ _ _ KL.toArray _ _ (heap_alloc_new w1 _)
  obtain ⟨W1, hW1⟩ : ∃ W1, W1 = (w1.alloc (.cells (natVals .u8 (List.replicate 64 0)).toArray 113)).setRow w1.heap.size KL.toArray := ⟨_, rfl⟩
  obtain ⟨G, hG⟩ : ∃ G, G = w1.heap.size := ⟨_, rfl⟩
  rw [← hW1] at B1 A1
  rw [← hG] at A1
  have HW1 := Lib.hid hW1
  have HG := Lib.hid hG
  have hg1 : G < W1.heap.size := (Array.getElem?_eq_some_iff.1 A1).1
  have HB1 := Lib.hid B1
  have HA1 := Lib.hid A1
  clear hb1 hW1 hG B1 A1
  have hg1 : W1.heap[G]? = some (.cells KL.toArray 113 (0, 0)) := HA1.out
  have hrg : W1.rangeAt G 0 KL := by
    intro j v hj
    rw [cell_of_row W1 G (0 + j) KL.toArray _ _ hg1, Nat.zero_add]
    simpa using hj
  have HRG := Lib.hid hrg
  have HPW := Lib.hid (HP.out.grown HB1.out)

  clear hg1 hrg
  go_wp2_with (refine wpList_store_row rfl 113 _ _ rfl w1.heap.size KL.toArray rfl rfl 113 _ (heap_alloc_new w1 _) (by rw [hKs]; exact infoArr64) (by rw [hKs]; rfl) hK1 ?_)
  have hput : ∀ (a : Act) (v : Value), a.put none v = a := fun _ _ => rfl
  try rw [hput]
  change Code.wp Tryd.prog _ _ _ ((w1.alloc (.cells (natVals .u8 (List.replicate 64 0)).toArray 113)).setRow w1.heap.size KL.toArray)
  rw [← HW1.out, ← HG.out]
  have hu : Tryd.prog.underlying 113 = some (.array 64 5) := Tryd.underlying113
  have hi : (Tryd.prog.info? 113).map (·.size) = some KL.length := by rw [hKLl]; exact infoArr64
  have hb0 : Below W1.heap.size W1 W1 := Below.refl _ _
  have hr0 := HRG.out
  go_region_held3 (fun w' => Below W1.heap.size W1 w' ∧ w'.rangeAt G 0 KL) (first | (refine keepS ?_ hbb; assumption) | exact keepD (by assumption) | exact keepD ⟨hb0, hr0⟩)
    (first
      | (go_at_call 61; refine (L2.out _).mono ?_; rintro e wn ⟨rfl, hbb⟩)
      | (go_at_call 62; refine (L3.out _).mono ?_; rintro e wn ⟨rfl, hbb⟩)
      | (go_at_call 60; refine (L5.out _ (partsOf HPW.out (by assumption) (G := G) (KL := KL))).mono ?_; rintro e wn ⟨rfl, hbb⟩)
      | (go_at_call 59; refine (L7.out _ (partsOf HPW.out (by assumption) (G := G) (KL := KL))).mono ?_; rintro e wn ⟨rfl, hbb⟩))
  have hz : Below W1.heap.size W1 wn ∧ wn.rangeAt G 0 KL := by assumption
  obtain ⟨w5, hw5⟩ : ∃ w5, w5 = wn := ⟨_, rfl⟩
  rw [← hw5] at hz ⊢
  clear hw5
  go_wp2_with fail
  go_region_held3 (fun w' => Below W1.heap.size W1 w' ∧ w'.rangeAt G 0 KL) (first | exact keepD hz | (refine keepS ?_ hbb; assumption))
    (first
      | (go_at_call 61; refine (L2.out _).mono ?_; rintro e wn ⟨rfl, hbb⟩)
      | (go_at_call 62; refine (L4.out _).mono ?_; rintro e wn ⟨rfl, hbb⟩)
      | (go_at_call 60; refine (L6.out _ (partsOf HPW.out (by assumption) (G := G) (KL := KL))).mono ?_; rintro e wn ⟨rfl, hbb⟩)
      | (go_at_call 59; refine (L8.out _ (partsOf HPW.out (by assumption) (G := G) (KL := KL))).mono ?_; rintro e wn ⟨rfl, hbb⟩))
  have hz9 : Below W1.heap.size W1 wn ∧ wn.rangeAt G 0 KL := by assumption
  go_wp2
  go_ret
  exact ⟨rfl, HB1.out.trans (hz9.1.mono HB1.out.size)⟩

end Go.Proofs.YtajhegjemhegiaaDoor
namespace Go.Proofs.YtajhegjemhegiaaDoor
open Go.RowKit ShaMath TextNat

set_option maxRecDepth 100000 in
set_option maxHeartbeats 4000000 in
theorem macDerive (key : ByteArray) (n : Int) (w : World) (hk : key.size ≤ 5000) (hp : Parts w) :
    Calls Tryd.prog 37 #[.string key, .int .i64 n] w fun e w' => e = .returned (.string (txt (derive (nats key) (n % 18446744073709551616).toNat))) ∧ Below w.heap.size w w' := by
  obtain ⟨ib, hib, hb0, hb1, hb2⟩ := info_parts infoB
  have kc := fun (w : World) (C : Array Value) (n c : Nat) => Lib.run_convert_bytes_const (P := Tryd.prog) w 43 5 C n c Tryd.underlying43 Tryd.underlying5
  obtain ⟨x, hx⟩ : ∃ x : Nat, x = (n % 18446744073709551616).toNat := ⟨_, rfl⟩
  have e1 : IntKind.u64.wrap n = (x : Int) := by rw [IntKind.wrap_u64]; omega
  rw [← hx]
  have H0 : OwnsM (w.alloc (.cells #[.int .u8 107, .int .u8 101, .int .u8 121] 5 (3, 4))) w.heap.size 5 (.slice (some ⟨w.heap.size, 0, none⟩) 3 3) (3 + 0) (byteVals ([107, 101, 121] ++ (eight x).take 0)) :=
    ⟨rfl, .inr ⟨w.heap.size, 3, #[.int .u8 107, .int .u8 101, .int .u8 121], 3, 4, rfl, Nat.le_refl _, heap_alloc_new w _, .inr (by decide), by decide, by unfold maxLen; decide, rfl, rfl⟩⟩
  have HO0 := Lib.hid H0
  have HB0 := Lib.hid ((Below.refl w.heap.size w).alloc (Nat.le_refl _) (.cells #[.int .u8 107, .int .u8 101, .int .u8 121] 5 (3, 4)))
  have HP := Lib.hid hp
  clear hx H0 hp
  go_enter Tryd.func37, Tryd.ntmps37
  go_wp2_with fail
  clear kc
  go_loopg [5, 6] 8 (fun gh s5 s6 wx => ∃ i : Nat, i + gh = 8 ∧ s6 = .int .i64 (56 - 8 * (i : Int)) ∧ OwnsM wx w.heap.size 5 s5 (3 + i) (byteVals ([107, 101, 121] ++ (eight x).take i)) ∧ Below w.heap.size w wx)
  case atStart => exact ⟨0, rfl, by go_num, HO0.out, HB0.out⟩
  case round =>
    obtain ⟨i, hi, rfl, hown, hb⟩ := hrel
    clear HO0 HB0
    obtain ⟨g1, c1, rfl, hg1, hgl1, hn1, _, hcells, _⟩ := hown.open (by omega)
    by_cases h8 : i < 8
    · obtain ⟨sh, hsh⟩ : ∃ sh, sh = 56 - 8 * i := ⟨_, rfl⟩
      have es : (56 : Int) - 8 * (i : Int) = (sh : Int) := by omega
      have es3 : (sh : Int) = 56 - 8 * (i : Int) := by omega
      have ES := Lib.hid es3
      obtain ⟨b, hbd⟩ : ∃ b, b = x / 2 ^ sh % 256 := ⟨_, rfl⟩
      have hE : (eight x)[i]? = some b := by
        have h := eight_at x (7 - i) (by omega)
        rw [show 7 - (7 - i) = i by omega, show 8 * (7 - i) = sh by omega] at h
        rw [h, hbd]
      have k8 : IntKind.u8.wrap ((x : Int) / 2 ^ sh) = (b : Int) := by
        rw [IntKind.wrap_u8, hbd, Int.natCast_emod, Int.natCast_ediv, Int.natCast_pow]
        rfl
      have HT := Lib.hid (show byteVals ([107, 101, 121] ++ (eight x).take i) ++ [.int .u8 (b : Int)] = byteVals ([107, 101, 121] ++ (eight x).take (i + 1)) by
        simp [byteVals, List.take_add_one, hE])
      have HO := Lib.hid (hown.alloc (.cells #[.int .u8 (b : Int)] 5))
      have hs2 := hb.size
      have HB := Lib.hid (hb.alloc hb.size (.cells #[.int .u8 (b : Int)] 5))
      have hsh64 : sh < 64 := by omega
      have hsh64' : (sh : Int) < 64 := by omega
      rw [es]
      clear hown hb hsh hbd hE es es3 hcells
      go_wp2_with ((at_builtin; refine wpList_append_m rfl _ _ 43 rfl w.heap.size 5 ib (.int .u8 0) 1 Tryd.underlying43 hib hb0 hb1 hb2 rfl _ _ _ rfl HO.out ⟨_, 0, none⟩ 1 1 [.int .u8 (b : Int)] rfl rfl (one_at _ _ _ _ (by simp)) (fun u hu => by simp at hu; subst hu; rfl) (by unfold maxLen; omega) (by omega) (by simp; omega) ?_; intro v2 w2 hown2 hgrow2))
      have hB2 : Below w.heap.size w w2 := HB.out.grown hgrow2 (by simp; omega) (fun q hq => (HO.out.lt q hq).1)
      rw [HT.out] at hown2
      have es4 := ES.out
      go_roundg (8 - (i + 1))
      case measure => omega
      case rel => exact ⟨i + 1, by omega, congrArg (Value.int .i64) (by omega), hown2, hB2⟩
    · obtain rfl : i = 8 := by omega
      have ht8 : (eight x).take 8 = eight x := rfl
      rw [ht8] at hcells
      have hcv := text_any wr g1 c1 ([107, 101, 121] ++ eight x) (fun b hb => by
        rcases List.mem_append.1 hb with h | h
        · simp only [List.mem_cons, List.not_mem_nil, or_false] at h
          omega
        · exact eight_lt x b h) (fun j hj => hcells j hj)
      rw [show ([107, 101, 121] ++ eight x : List Nat).length = 11 from rfl] at hcv
      have HT := Lib.hid (macTag key (txt ([107, 101, 121] ++ eight x)) wr hk (by rw [txt_len]; simp [eight_len]) (HP.out.grown hb))
      rw [nats_txt _ (fun b hb => by
        rcases List.mem_append.1 hb with h | h
        · simp only [List.mem_cons, List.not_mem_nil, or_false] at h
          omega
        · exact eight_lt x b h)] at HT
      have HB := Lib.hid hb
      clear hown hb hcells h8
      go_wp2_with (go_at_call 40; refine HT.out.mono ?_; rintro e w3 ⟨rfl, hb3⟩)
      go_ret
      exact ⟨rfl, HB.out.trans (hb3.mono HB.out.size)⟩
end Go.Proofs.YtajhegjemhegiaaDoor
namespace Go.Proofs.YtajhegjemhegiaaDoor
open Go.RowKit TextNat

abbrev rname : ByteArray := ⟨#[114, 105, 110, 103]⟩
def RAt (w : World) (b : Nat) (S : Nat → Prop) (m : ByteArray) (c : Int) : Prop := Lies w b [.string m, .int .i64 c] 52 ∧ ∀ k, S k ↔ k = b
def rng : Rng where
  at_ := RAt
  stays := by
    rintro w w' b S m c ⟨h1, h2⟩ hs hk
    exact ⟨(hk b ((h2 b).2 rfl)).trans h1, h2⟩
  lt := by
    rintro w b S m c ⟨h1, h2⟩ k hk
    rw [(h2 k).1 hk]
    exact h1.lt
/-- The program's errors. -/
theorem ring_err (n c : Int) (w : World) : Calls Tryd.prog 17 #[.string rname, .int .i64 n, .iface 40 (.int .i64 c)] w fun e w' => (∃ x, e = .returned x ∧ ErrIs w' c x) ∧ Below w.heap.size w w' := by
  refine (at_chain rname n [] c _ w rfl).mono ?_
  rintro e w' ⟨r, rfl, h, hb⟩
  exact ⟨⟨r, rfl, ⟨_, h⟩⟩, hb⟩
theorem ring_clone (s : ByteArray) (w : World) (hs : s.size ≤ 281474976710656) : Calls Tryd.prog 18 #[.string s] w fun e w' => e = .returned (.string s) ∧ Below w.heap.size w w' := by
  have HC := Lib.hid (fun w => Tryd.stringslite_Clone s w hs)
  clear hs
  go_enter Tryd.func18, Tryd.ntmps18
  go_wp2_with (go_at_call 32; refine (HC.out _).mono ?_; rintro e w2 ⟨rfl, hb⟩)
  go_ret
  exact ⟨rfl, hb⟩
set_option maxRecDepth 100000 in
theorem rnewOk : RNewOk rng := by
  intro m c w hm hc
  obtain ⟨k, hk⟩ : ∃ k, k = m.size := ⟨_, rfl⟩
  have e1 : (m.size : Int) = (k : Int) := by omega
  have HE := Lib.hid (ring_err 0 1 w)
  have HQ := Lib.hid (show rightB m c = (!decide (k < 1) && !decide (64 < k) && !decide (c < 0) && !decide (1099511627776 < c)) by
    unfold rightB
    rw [← hk, Bool.eq_iff_iff]
    simp only [Bool.and_eq_true, decide_eq_true_eq, Bool.not_eq_true', decide_eq_false_iff_not]
    omega)
  have HC := Lib.hid (show k ≤ 64 → Calls Tryd.prog 18 #[.string m] w (fun e w' => e = .returned (.string m) ∧ Below w.heap.size w w') from fun h => ring_clone m w (by omega))
  clear hk hm hc
  cases q1 : decide (k < 1) <;> cases q2 : decide (64 < k) <;> cases q3 : decide (c < 0) <;> cases q4 : decide (1099511627776 < c)
  all_goals
    have r1 : decide ((k : Int) < 1) = decide (k < 1) := decide_eq_decide.2 (by omega)
    have r2 : decide ((64 : Int) < (k : Int)) = decide (64 < k) := decide_eq_decide.2 (by omega)
    rw [q1] at r1
    rw [q2] at r2
    rw [q1, q2, q3, q4] at HQ
    rw [HQ.out]
    go_enter Tryd.func9, Tryd.ntmps9
    go_wp2_with (first
      | (go_at_call 17; refine HE.out.mono ?_; rintro e w2 ⟨⟨x, rfl, hx⟩, hb⟩)
      | (go_at_call 18; refine (HC.out (Nat.le_of_not_lt (of_decide_eq_false q2))).mono ?_; rintro e w2 ⟨rfl, hb⟩; have HB := Lib.hid (hb.alloc hb.size (.cells #[.string m, .int .i64 c] 52)); have HL := Lib.hid (Lies.new w2 [.string m, .int .i64 c] 52); have HZ := Lib.hid hb.size; clear hb))
    go_ret2
    first
      | exact ⟨⟨_, rfl, fun k => k = w2.heap.size, ⟨HL.out, fun _ => Iff.rfl⟩, fun k hk => hk ▸ HZ.out⟩, HB.out⟩
      | exact ⟨⟨_, rfl, hx⟩, hb⟩
set_option maxRecDepth 100000 in
theorem currentOk : CurrentOk rng := by
  intro b S m c w h hr
  have c1 := Lies.cell (i := 1) h.1 rfl
  clear h hr
  go_enter Tryd.func24, Tryd.ntmps24
  go_wp2
  go_ret
  exact ⟨rfl, Below.refl _ _⟩
set_option maxRecDepth 100000 in
theorem alive_raw (b : Nat) (m : ByteArray) (c n : Int) (w : World) (h : Lies w b [.string m, .int .i64 c] 52) (hc : 0 ≤ c ∧ c ≤ 1099511627776) : Calls Tryd.prog 36 #[rptr b, .int .i64 n] w fun e w' => e = .returned (.bool (aliveB c n)) ∧ w' = w := by
  have c1 := Lies.cell (i := 1) h rfl
  have k1 : IntKind.i64.wrap (c - 2) = c - 2 := by rw [IntKind.wrap_i64]; omega
  by_cases hle : c - 2 ≤ 0
  · have km : max 0 (c - 2) = 0 := by omega
    have hlt : ¬ 0 < c - 2 := by omega
    have HQ := Lib.hid (show aliveB c n = (decide (0 ≤ n) && decide (n ≤ 1099511627776)) by
      unfold aliveB
      rw [Bool.eq_iff_iff]
      simp only [Bool.and_eq_true, decide_eq_true_eq]
      omega)
    clear h hc
    by_cases d1 : 0 ≤ n <;> by_cases d2 : n ≤ 1099511627776
    all_goals
      simp only [d1, d2, decide_true, decide_false, Bool.and_true, Bool.and_false] at HQ
      go_enter Tryd.func36, Tryd.ntmps36
      go_wp2
      all_goals first | (go_ret; exact ⟨by rw [HQ.out]; rfl, rfl⟩) | (exfalso; omega)
  · have km : max 0 (c - 2) = c - 2 := by omega
    have hlt : 0 < c - 2 := by omega
    have HQ := Lib.hid (show aliveB c n = (decide (c - 2 ≤ n) && decide (n ≤ 1099511627776)) by
      unfold aliveB
      rw [Bool.eq_iff_iff]
      simp only [Bool.and_eq_true, decide_eq_true_eq]
      omega)
    clear h hc
    by_cases d1 : c - 2 ≤ n <;> by_cases d2 : n ≤ 1099511627776
    all_goals
      simp only [d1, d2, decide_true, decide_false, Bool.and_true, Bool.and_false] at HQ
      go_enter Tryd.func36, Tryd.ntmps36
      go_wp2
      all_goals first | (go_ret; exact ⟨by rw [HQ.out]; rfl, rfl⟩) | (exfalso; omega)
theorem aliveOk : AliveOk rng := fun b S m c n w h hr _ => by
  have q := right_bounds hr
  refine (alive_raw b m c n w h.1 ⟨q.1, q.2.1⟩).mono ?_
  rintro e w' ⟨rfl, rfl⟩
  exact ⟨rfl, Below.refl _ _⟩
set_option maxRecDepth 100000 in
theorem keyOk : KeyOk rng := by
  intro b S m c n w h hr hn hP
  have q := right_bounds hr
  have HA := Lib.hid (alive_raw b m c n w h.1 ⟨q.1, q.2.1⟩)
  have HC := Lib.hid (currentOk b S m c w h hr)
  have c0 := Lies.cell (i := 0) h.1 rfl
  have c1 := Lies.cell (i := 1) h.1 rfl
  have HM := Lib.hid (show m.size ≤ 5000 by omega)
  have HP := Lib.hid hP
  have HE := Lib.hid (fun w1 => ring_err c 9 w1)
  cases hal : aliveB c n with
  | true =>
    rw [hal] at HA
    have HD := Lib.hid (show Calls Tryd.prog 37 #[.string m, .int .i64 n] w fun e w' => e = .returned (.string (keyOf m n)) ∧ Below w.heap.size w w' from macDerive m n w HM.out hP)
    clear h hr hn hP q hal
    go_enter Tryd.func21, Tryd.ntmps21
    go_wp2_with (go_at_call 36; refine HA.out.mono ?_; rintro e w2 ⟨rfl, hw⟩; rw [hw]; clear hw)
    refine HD.out.mono ?_
    rintro e w2 ⟨rfl, hb⟩
    have HB := Lib.hid hb
    clear hb
    go_wp2
    go_ret2
    exact ⟨rfl, HB.out⟩
  | false =>
    rw [hal] at HA
    clear h hr hn hP q hal
    go_enter Tryd.func21, Tryd.ntmps21
    go_wp2_with (go_at_call 36; refine HA.out.mono ?_; rintro e w2 ⟨rfl, hw⟩; rw [hw]; clear hw)
    refine HC.out.mono ?_
    rintro e w2 ⟨rfl, hb⟩
    have HB := Lib.hid hb
    clear hb
    go_wp2_with fail
    refine (HE.out w2).mono ?_
    rintro e w3 ⟨⟨x, rfl, hx⟩, hb⟩
    have HX := Lib.hid hx
    have HB2 := Lib.hid (HB.out.trans (hb.mono HB.out.size))
    clear hb hx
    go_wp2
    go_ret2
    exact ⟨⟨x, rfl, HX.out⟩, HB2.out⟩
end Go.Proofs.YtajhegjemhegiaaDoor
