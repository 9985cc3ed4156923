/-
  The contract of mac's finish: the digest of a text whose first blocks are already mixed in. The conditions: those blocks are whole; the text and they are at most 20,000 bytes; the 64 constants stand where the program's text lays them.
-/
import Derived.Test.YtajhegjemhegiaaDoorPart04
import Derived.Test.YtajhegjemhegiaaDoorMacBytes
import Derived.Test.YtajhegjemhegiaaDoorPart03
import Derived.Lib.IndexBytes
namespace Go.Proofs.YtajhegjemhegiaaDoor
open Go.RowKit ShaMath TextNat

theorem infoByte : (Tryd.prog.info? 5).map (·.size) = some 1 := by kernel_rfl
theorem nats_cut (s : ByteArray) : nats (s.extract 64 s.size) = (nats s).drop 64 := by
  unfold nats
  rw [Lib.extract_to_end, List.map_drop]
theorem size_cut (s : ByteArray) : (s.extract 64 s.size).size = s.size - 64 := by
  rw [← nats_len, nats_cut, List.length_drop, nats_len]
/-- mix, over what lies in two blocks. -/
theorem mix_of (r : Regs) (hr : r.Ok) (b : List Nat) (w : World) (hk : b.length = 64) (hlt : ∀ x ∈ b, x < 256) (hp : Parts w) (C D E : Array Value) (hC : C = (natVals .u32 r.list).toArray) (hD : D = (natVals .u8 b).toArray) (hE : E = (natVals .u32 (mixN r b).list).toArray) :
    Calls Tryd.prog 60 #[.agg C, .agg D] w fun e w' => e = .returned (.agg E) ∧ Below w.heap.size w w' := by
  rw [hC, hD, hE]
  exact mix_any r hr b w hk hlt hp

theorem lastFirst_set (R : List Nat) (n : Nat) (hn : n < 64) (hR : R.length = n) : (R ++ List.replicate (64 - n) 0).set n 128 = lastFirst R := by
  unfold lastFirst
  rw [List.set_append_right _ _ (by omega), hR, Nat.sub_self, show 64 - n = (63 - n) + 1 by omega, List.replicate_succ, List.append_assoc]
  rfl
theorem lastFirst_len (R : List Nat) (h : R.length < 64) : (lastFirst R).length = 64 := by simp [lastFirst]; omega
theorem lastFirst_lt {R : List Nat} (h : ∀ x ∈ R, x < 256) : ∀ x ∈ lastFirst R, x < 256 := by
  intro x hx
  simp only [lastFirst, List.mem_append, List.mem_singleton, List.mem_replicate] at hx
  rcases hx with (h1 | h1) | h1
  · exact h x h1
  · omega
  · omega
theorem lastFirst_tailed (R E : List Nat) (h : R.length < 56) (hE : E.length = 8) : lastFirst R = tailed (R ++ [128] ++ List.replicate (55 - R.length) 0) E 0 := by
  rw [tailed_zero _ _ hE]
  unfold lastFirst
  rw [show 63 - R.length = (55 - R.length) + 8 by omega, ← List.replicate_append_replicate]
  simp only [List.append_assoc]

set_option maxRecDepth 100000 in
set_option maxHeartbeats 8000000 in
theorem finish_any (p : List Nat) (np : Nat) (h : Regs) (s : ByteArray) (w : World) (hp : p.length = 64 * np) (hh : h = run r0 p np) (hs : p.length + s.size ≤ 20000) (hpp : Parts w) :
    Calls Tryd.prog 59 #[natsVal .u32 h.list, .int .i64 (p.length : Int), .string s] w fun e w' => e = .returned (.string (txt (digest (p ++ nats s)))) ∧ Below w.heap.size w w' := by
  have hok : h.Ok := by rw [hh]; exact run_ok r0_ok _ _
  obtain ⟨S, hS⟩ : ∃ S, S = nats s := ⟨_, rfl⟩
  have hSl : S.length = s.size := by rw [hS, nats_len]
  have hSlt : ∀ x ∈ S, x < 256 := by rw [hS]; exact nats_lt s
  obtain ⟨L, hL⟩ : ∃ L, L = p.length + S.length := ⟨_, rfl⟩
  obtain ⟨X, hX⟩ : ∃ X, X = 8 * L := ⟨_, rfl⟩
  obtain ⟨E, hE⟩ : ∃ E, E = eight X := ⟨_, rfl⟩
  have hDG := fun K hK hR => digest_run p S np K hp hK hR
  rw [← hL, ← hX, ← hE, ← hh] at hDG
  obtain ⟨out, hout⟩ : ∃ out, out = digest (p ++ S) := ⟨_, rfl⟩
  rw [← hout] at hDG
  rw [← hS, ← hout]
  obtain ⟨pl, hpl⟩ : ∃ pl, pl = p.length := ⟨_, rfl⟩
  rw [← hpl] at hs hL hp ⊢
  have hXs : X = 8 * (pl + s.size) := by rw [hX, hL, hSl]
  have x1 : IntKind.i64.wrap ((pl : Int) + (s.size : Int)) = ((pl + s.size : Nat) : Int) := by rw [IntKind.wrap_i64]; omega
  have x2 : IntKind.u64.wrap ((pl + s.size : Nat) : Int) = ((pl + s.size : Nat) : Int) := by rw [IntKind.wrap_u64]; omega
  have x3 : IntKind.u64.wrap (((pl + s.size : Nat) : Int) * 8) = (X : Int) := by rw [IntKind.wrap_u64, hXs]; omega
  have x4 : ((pl : Int) + (s.size : Int)) * 8 = (X : Int) := by rw [hXs]; omega
  have hEl : E.length = 8 := by rw [hE, eight_len]
  have hElt : ∀ x ∈ E, x < 256 := by rw [hE]; exact eight_lt X
  have hX0 : X ≤ 200000 := by omega
  have H0 := (Arr.new w 116 .u32 h.list).alloc (.cells (natVals .u8 (List.replicate 64 0)).toArray 113)
  have H1 := Arr.new (w.alloc (.cells (natVals .u32 h.list).toArray 116)) 113 .u8 (List.replicate 64 0)
  rw [World.size_alloc] at H1
  have H2 := ((Below.refl w.heap.size w).alloc (Nat.le_refl _) (.cells (natVals .u32 h.list).toArray 116)).alloc (by simp) (.cells (natVals .u8 (List.replicate 64 0)).toArray 113)
  have H3 : Arr w.heap.size 116 .u32 (run h S 0).list _ := H0
  unfold natsVal
  obtain ⟨D, hD⟩ : ∃ D, D = (natVals .u32 h.list).toArray := ⟨_, rfl⟩
  rw [← hD] at H1 H2 H3 ⊢
  have K1 := Lib.hid H1
  have K2 := Lib.hid H2
  have K3 := Lib.hid H3
  have HDG := Lib.hid hDG
  have HE := Lib.hid hE
  have HS := Lib.hid hS
  have HSL := Lib.hid hSl
  have HSLT := Lib.hid hSlt
  have HEL := Lib.hid hEl
  have HELT := Lib.hid hElt
  have HOK := Lib.hid hok
  have HPP := Lib.hid hpp
  clear hD H0 H1 H2 H3 hDG hE hS hSl hSlt hEl hElt hok hpp hp hh hL hX hXs hout hpl
  go_enter Tryd.func59, Tryd.ntmps59
  go_wp2_with fail
  go_loopg [2] (s.size / 64) (fun gh s2 wx => ∃ (k : Nat) (S2 : ByteArray) (l : List Nat), k + gh = s.size / 64 ∧ s2 = .string S2 ∧ Hid (nats S2 = S.drop (64 * k)) ∧ Hid (l.length = 64) ∧ Hid (∀ x ∈ l, x < 256) ∧ Hid (Arr w.heap.size 116 .u32 (run h S k).list wx) ∧ Hid (Arr (w.heap.size + 1) 113 .u8 l wx) ∧ Below w.heap.size w wx)
  case atStart => exact ⟨0, s, List.replicate 64 0, by omega, rfl, Lib.hid (by rw [HS.out]; rfl), Lib.hid (by simp), Lib.hid (by intro x hx; rw [(List.mem_replicate.1 hx).2]; decide), K3, K1, K2.out⟩
  case round =>
    obtain ⟨k, S2, l, hk, rfl, hS2, hl, hllt, h0, h1, hb⟩ := hrel
    clear K1 K2 K3
    have hz2 : S2.size = s.size - 64 * k := by rw [← nats_len, hS2.out, List.length_drop, HSL.out]
    by_cases h64 : 64 ≤ S2.size
    · have t1 : decide (64 ≤ S2.size) = true := decide_eq_true h64
      have t2 : decide ((64 : Int) ≤ (S2.size : Int)) = true := decide_eq_true (by omega)
      have hkk : k < s.size / 64 := by omega
      obtain ⟨blk, hblk⟩ : ∃ blk, blk = (S.drop (64 * k)).take 64 := ⟨_, rfl⟩
      have hbl : blk.length = 64 := by rw [hblk, List.length_take, List.length_drop, HSL.out]; omega
      have hblt : ∀ x ∈ blk, x < 256 := by rw [hblk]; exact fun x hx => HSLT.out x (List.mem_of_mem_drop (List.mem_of_mem_take hx))
      have hC1e : blk = (nats S2).take 64 ++ l.drop S2.size := by rw [hS2.out, ← hblk, List.drop_of_length_le (by rw [hl.out]; exact h64), List.append_nil]
      have hRK : mixN (run h S k) blk = run h S (k + 1) := by rw [hblk]; rfl
      have hok := run_ok HOK.out S k
      obtain ⟨C1, hC1⟩ : ∃ C1, C1 = (natVals .u8 blk).toArray := ⟨_, rfl⟩
      obtain ⟨CH, hCH⟩ : ∃ CH, CH = (natVals .u32 (run h S k).list).toArray := ⟨_, rfl⟩
      obtain ⟨CE, hCE⟩ : ∃ CE, CE = (natVals .u32 (mixN (run h S k) blk).list).toArray := ⟨_, rfl⟩
      have hCHs : CH.size = 8 := by rw [hCH]; rfl
      have hCEs : CE.size = 8 := by rw [hCE]; rfl
      have hC1s : C1.size = 64 := by rw [hC1]; simp [natVals_len, hbl]
      have hCE1 : CE.all (·.oneCell') = true := by rw [hCE]; exact natVals_one _ _
      have hC1' : C1 = (natVals .u8 ((nats S2).take 64 ++ l.drop S2.size)).toArray := by rw [hC1, hC1e]
      have hb1 := below_setRow hb (show w.heap.size ≤ w.heap.size + 1 by omega) C1
      have HM := Lib.hid (mix_of (run h S k) hok blk (wr.setRow (w.heap.size + 1) C1) hbl hblt (HPP.out.grown hb1) CH C1 CE hCH hC1 hCE)
      have G1 : Hid ((wr.setRow (w.heap.size + 1) C1).heap[w.heap.size + 1]? = some (.cells C1 113 (0, 0))) := Lib.hid (setRow_heap wr _ _ C1 _ _ h1.out)
      have G0 : Hid ((wr.setRow (w.heap.size + 1) C1).heap[w.heap.size]? = some (.cells CH 116 (0, 0))) := Lib.hid (by rw [hCH]; exact h0.out.rowOther C1 (by omega))
      have HB1 := Lib.hid hb1
      have HH1 := Lib.hid h1.out
      have HC1 := Lib.hid hC1'
      have HCE := Lib.hid hCE
      have HRK := Lib.hid hRK
      have HC1b := Lib.hid hC1
      have HBL := Lib.hid hbl
      have HBLT := Lib.hid hblt
      have HS2 := hS2
      have HZ2 := Lib.hid hz2
      have hmin : min S2.size 64 = 64 := Nat.min_eq_right h64
      have hsz1 := h1.out.lt
      clear hblk hbl hblt hC1e hRK hok hC1 hCH hCE hC1' hb1 h0 h1 hb hS2 hllt hz2
      go_wp2_with (first
        | (refine wpList_copy_text_to rfl _ _ 43 9 rfl 5 Tryd.underlying43 infoByte (w.heap.size + 1) 64 64 S2 rfl rfl 113 l HH1.out hl.out 64 hmin C1 HC1.out ?_)
        | (refine wpList_load_row rfl 116 _ rfl w.heap.size rfl 116 CH (0, 0) _ G0.out Tryd.underlying116 rfl (by rw [hCHs]; exact infoArr8) ?_)
        | (refine wpList_load_row rfl 113 _ rfl (w.heap.size + 1) rfl 113 C1 (0, 0) _ G1.out Tryd.underlying113 rfl (by rw [hC1s]; exact infoArr64) ?_))
      refine HM.out.mono ?_
      rintro e w2 ⟨rfl, hb2⟩
      rw [setRow_size] at hb2
      have hsw := HB1.out.size
      have q0 : w.heap.size < wr.heap.size := by omega
      have J0 : Hid (w2.heap[w.heap.size]? = some (.cells CH 116 (0, 0))) := Lib.hid ((hb2.block _ q0).trans G0.out)
      have J1 : Arr (w.heap.size + 1) 113 .u8 blk w2 := (hb2.block _ hsz1).trans (by rw [← HC1b.out]; exact G1.out)
      have JB : Below w.heap.size w w2 := HB1.out.trans (hb2.mono (by omega))
      have N0 := Lib.hid (setRow_heap w2 w.heap.size _ CE _ _ J0.out)
      have N1 := Lib.hid (J1.rowOther CE (show w.heap.size + 1 ≠ w.heap.size by omega))
      have NB := Lib.hid (below_setRow JB (Nat.le_refl _) CE)
      clear hb2 J1 JB HM G0 G1
      go_wp2_with (refine wpList_store_row rfl 116 _ _ rfl w.heap.size CE rfl rfl 116 _ J0.out (by rw [hCEs]; exact infoArr8) (by rw [hCEs, hCHs]) hCE1 ?_)
      go_roundg (s.size / 64 - (k + 1))
      case measure => omega
      case rel => exact ⟨k + 1, S2.extract 64 S2.size, blk, by omega, rfl, Lib.hid (by rw [nats_cut, HS2.out, List.drop_drop, show 64 * (k + 1) = 64 * k + 64 by omega]), HBL, HBLT, by rw [← HRK.out]; unfold Arr; rw [← HCE.out]; exact N0, N1, NB.out⟩
    · have t1 : decide (64 ≤ S2.size) = false := decide_eq_false h64
      have t2 : decide ((64 : Int) ≤ (S2.size : Int)) = false := decide_eq_false (by omega)
      obtain ⟨n, hn⟩ : ∃ n, n = S2.size := ⟨_, rfl⟩
      have hn64 : n < 64 := by omega
      obtain ⟨R, hRd⟩ : ∃ R, R = S.drop (64 * k) := ⟨_, rfl⟩
      have hSs := HSL.out
      have hkle : 64 * k ≤ S.length := by omega
      have hRl : R.length = n := by rw [hRd, List.length_drop]; omega
      have hRlt : ∀ x ∈ R, x < 256 := by rw [hRd]; exact fun x hx => HSLT.out x (List.mem_of_mem_drop hx)
      have hdg := HDG.out k hkle (by omega)
      rw [← hRd, show S.length - 64 * k = n by omega] at hdg
      have hok := run_ok HOK.out S k
      obtain ⟨HK, hHK⟩ : ∃ HK, HK = run h S k := ⟨_, rfl⟩
      rw [← hHK] at hdg hok h0
      have h0' : Hid (Arr w.heap.size 116 .u32 HK.list wr) := h0
      obtain ⟨Z, hZ⟩ : ∃ Z, Z = (natVals .u8 (List.replicate 64 0)).toArray := ⟨_, rfl⟩
      have hZs : Z.size = 64 := by rw [hZ]; rfl
      have hZ1 : Z.all (·.oneCell') = true := by rw [hZ]; exact natVals_one _ _
      have G1 : Arr (w.heap.size + 1) 113 .u8 (List.replicate 64 0) (wr.setRow (w.heap.size + 1) Z) := by rw [hZ]; exact h1.out.row _
      obtain ⟨C1, hC1⟩ : ∃ C1, C1 = (natVals .u8 ((nats S2).take 64 ++ (List.replicate 64 0).drop S2.size)).toArray := ⟨_, rfl⟩
      have hC1R : (nats S2).take 64 ++ (List.replicate 64 0).drop S2.size = R ++ List.replicate (64 - n) 0 := by
        rw [hS2.out, ← hRd, List.take_of_length_le (by omega), List.drop_replicate, ← hn]
      have HG1 := Lib.hid G1
      have HH1 := Lib.hid h1.out
      have HC1 := Lib.hid hC1
      have HZ := Lib.hid hZ
      have hll := hl.out
      have hmin : min S2.size 64 = n := by rw [← hn]; exact Nat.min_eq_left (by omega)
      have hn64' : (n : Int) < 64 := by omega
      have hn0 : 0 ≤ (n : Int) := by omega
      have A1 : Arr (w.heap.size + 1) 113 .u8 (R ++ List.replicate (64 - n) 0) ((wr.setRow (w.heap.size + 1) Z).setRow (w.heap.size + 1) C1) := by
        rw [hC1, hC1R]
        exact G1.row _
      have hrl : (R ++ List.replicate (64 - n) 0)[n]? = some 0 := by
        rw [List.getElem?_append_right (by omega), hRl, Nat.sub_self, List.getElem?_replicate, if_pos (by omega)]
      have F1 := A1.cell hrl
      have F2 := A1.free n
      have A2 := A1.set n 128
      rw [lastFirst_set R n hn64 hRl] at A2
      have A0 := ((h0'.out.rowOther Z (show w.heap.size ≠ w.heap.size + 1 by omega)).rowOther C1 (show w.heap.size ≠ w.heap.size + 1 by omega)).other ⟨w.heap.size + 1, n, none⟩ (.int .u8 ((128 : Nat) : Int)) (by simp)
      have AB := (below_setRow (below_setRow hb (show w.heap.size ≤ w.heap.size + 1 by omega) Z) (show w.heap.size ≤ w.heap.size + 1 by omega) C1).setCell (p := ⟨w.heap.size + 1, n, none⟩) (by simp) (.int .u8 ((128 : Nat) : Int))
      have HA0 := Lib.hid A0
      have HA2 := Lib.hid A2
      have HAB := Lib.hid AB
      have HRLT := Lib.hid hRlt
      have HRL := Lib.hid hRl
      have HDIG := Lib.hid hdg
      have HOKK := Lib.hid hok
      clear hk G1 hC1 h1 hl hllt h0 h0' hdg hok hRlt hRl hRd hSs hkle hS2 hZ A1 A0 A2 AB hrl hb hHK hz2
      have hsn : S2.size = n := hn.symm
      clear hn t1 t2
      have t1 : decide (64 ≤ n) = false := decide_eq_false (by omega)
      have t2 : decide ((64 : Int) ≤ (n : Int)) = false := decide_eq_false (by omega)
      by_cases h56 : n < 56
      · have t3 : decide ((56 : Int) ≤ (n : Int)) = false := decide_eq_false (by omega)
        have t4 : decide (56 ≤ n) = false := decide_eq_false (by omega)
        go_wp2_with (first
          | (refine wpList_store_row rfl 113 _ _ rfl (w.heap.size + 1) Z rfl (by rw [HZ.out]; rfl) 113 _ HH1.out (by rw [hZs]; exact infoArr64) (by rw [hZs]; simp [natVals_len, hll]) hZ1 ?_)
          | (refine wpList_copy_text_to rfl _ _ 43 9 rfl 5 Tryd.underlying43 infoByte (w.heap.size + 1) 64 64 S2 rfl rfl 113 (List.replicate 64 0) HG1.out (by simp) n hmin C1 HC1.out ?_))
        obtain ⟨W2, hW2⟩ : ∃ W2, W2 = (((wr.setRow (w.heap.size + 1) Z).setRow (w.heap.size + 1) C1).setCell ⟨w.heap.size + 1, n, none⟩ (.int .u8 128)) := ⟨_, rfl⟩
        have V0 : Hid (Arr w.heap.size 116 .u32 HK.list W2) := by rw [hW2]; exact HA0
        have V1' : Arr (w.heap.size + 1) 113 .u8 (lastFirst R) W2 := by rw [hW2]; exact HA2.out
        have VB : Hid (Below w.heap.size w W2) := by rw [hW2]; exact HAB
        obtain ⟨H, hHd⟩ : ∃ H, H = HK := ⟨_, rfl⟩
        obtain ⟨Y, hYd⟩ : ∃ Y, Y = R ++ [128] ++ List.replicate (55 - R.length) 0 := ⟨_, rfl⟩
        have hY : Hid (Y.length = 56) := Lib.hid (by have := HRL.out; rw [hYd]; simp; omega)
        have hYlt : Hid (∀ x ∈ Y, x < 256) := Lib.hid (by
          rw [hYd]
          intro x hx
          simp only [List.mem_append, List.mem_singleton, List.mem_replicate] at hx
          rcases hx with (h1 | h1) | h1
          · exact HRLT.out x h1
          · omega
          · omega)
        have hOH : Hid H.Ok := by rw [hHd]; exact HOKK
        have hOUT : Hid (out = (mixN H (Y ++ E)).list.flatMap four) := Lib.hid (by
          rw [HDIG.out, if_pos h56, hHd, hYd]
          rfl)
        have V1 : Hid (Arr (w.heap.size + 1) 113 .u8 (tailed Y E 0) W2) := Lib.hid (by
          rw [lastFirst_tailed R E (by have := HRL.out; omega) HEL.out, ← hYd] at V1'
          exact V1')
        rw [← hHd] at V0
        rw [← hW2]
        clear hHd hYd hW2 V1' HA0 HA2 HAB F1 F2 HG1 HH1 HC1 HDIG HOKK hC1R
        go_loopg [40] 8 (fun gh s40 wx => ∃ i : Nat, i + gh = 8 ∧ s40 = .int .i64 (i : Int) ∧ Hid (Arr w.heap.size 116 .u32 H.list wx) ∧ Hid (Arr (w.heap.size + 1) 113 .u8 (tailed Y E i) wx) ∧ Below w.heap.size w wx)
        case atStart => exact ⟨0, rfl, by go_num, V0, V1, VB.out⟩
        case round =>
          obtain ⟨i, hi, rfl, h0, h1, hb⟩ := hrel
          clear V0 V1 VB
          by_cases h8 : i < 8
          · have h8' : (i : Int) < 8 := by omega
            have i0 : 0 ≤ (i : Int) := by omega
            obtain ⟨x, hx⟩ : ∃ x, x = X / 2 ^ (8 * i) % 256 := ⟨_, rfl⟩
            have hEx : E[7 - i]? = some x := by rw [HE.out, hx]; exact eight_at X i h8
            have hT := tailed_succ Y E i x hY.out HEL.out h8 hEx
            have c1 := h1.out.cellD (i := 63 - i) (by rw [tailed_len Y E i hY.out HEL.out (by omega)]; omega)
            have f1 := h1.out.free (63 - i)
            have S1 := h1.out.set (63 - i) x
            rw [hT] at S1
            have HS1 := Lib.hid S1
            have HS0 := Lib.hid (h0.out.other ⟨w.heap.size + 1, 63 - i, none⟩ (.int .u8 (x : Int)) (by simp))
            have HSB := Lib.hid (hb.setCell (p := ⟨w.heap.size + 1, 63 - i, none⟩) (by simp) (.int .u8 (x : Int)))
            have k1 : 0 ≤ 63 - (i : Int) := by omega
            have k2 : 63 - (i : Int) < 64 := by omega
            have k3 : (63 - (i : Int)).toNat = 63 - i := by omega
            have k4 : IntKind.i64.wrap (8 * (i : Int)) = 8 * (i : Int) := by rw [IntKind.wrap_i64]; omega
            have k5 : (8 * (i : Int)).toNat = 8 * i := by omega
            have k6 : 0 ≤ 8 * (i : Int) := by omega
            have k7 : 8 * (i : Int) < 64 := by omega
            have k8 : IntKind.u8.wrap ((X : Int) / 2 ^ (8 * i)) = (x : Int) := by
              rw [IntKind.wrap_u8, hx, Int.natCast_emod, Int.natCast_ediv, Int.natCast_pow]
              rfl
            have k9 : IntKind.i64.wrap (63 - (i : Int)) = 63 - (i : Int) := by rw [IntKind.wrap_i64]; omega
            clear h0 h1 hb hx hEx hT S1
            go_wp2
            go_roundg (8 - (i + 1))
            case measure => omega
            case rel => exact ⟨i + 1, by omega, by go_num, HS0, HS1, HSB.out⟩
          · obtain rfl : i = 8 := by omega
            rw [tailed_all] at h1
            have hYE : (Y ++ E).length = 64 := by rw [List.length_append, hY.out, HEL.out]
            have hYElt : ∀ x ∈ Y ++ E, x < 256 := fun x hx => (List.mem_append.1 hx).elim (hYlt.out x) (HELT.out x)
            obtain ⟨CH, hCH⟩ : ∃ CH, CH = (natVals .u32 H.list).toArray := ⟨_, rfl⟩
            obtain ⟨CB, hCB⟩ : ∃ CB, CB = (natVals .u8 (Y ++ E)).toArray := ⟨_, rfl⟩
            obtain ⟨CE, hCE⟩ : ∃ CE, CE = (natVals .u32 (mixN H (Y ++ E)).list).toArray := ⟨_, rfl⟩
            have hCHs : CH.size = 8 := by rw [hCH]; rfl
            have hCBs : CB.size = 64 := by rw [hCB]; simp [natVals_len, hY.out, HEL.out]
            have G0 : Hid (wr.heap[w.heap.size]? = some (.cells CH 116 (0, 0))) := Lib.hid (by rw [hCH]; exact h0.out)
            have G1 : Hid (wr.heap[w.heap.size + 1]? = some (.cells CB 113 (0, 0))) := Lib.hid (by rw [hCB]; exact h1.out)
            have HM := Lib.hid (mix_of H hOH.out (Y ++ E) wr hYE hYElt (HPP.out.grown hb) CH CB CE hCH hCB hCE)
            have HBY := Lib.hid (fun w => bytesOf_any (mixN H (Y ++ E)) (mixN_ok _ _) w)
            unfold natsVal at HBY
            rw [← hCE, ← hOUT.out] at HBY
            have HB := Lib.hid hb
            clear h0 h1 hb hYE hYElt hCH hCB hCE
            go_wp2_with (first
              | (refine wpList_load_row rfl 116 _ rfl w.heap.size rfl 116 CH (0, 0) _ G0.out Tryd.underlying116 rfl (by rw [hCHs]; exact infoArr8) ?_)
              | (refine wpList_load_row rfl 113 _ rfl (w.heap.size + 1) rfl 113 CB (0, 0) _ G1.out Tryd.underlying113 rfl (by rw [hCBs]; exact infoArr64) ?_))
            refine HM.out.mono ?_
            rintro e w3 ⟨rfl, hb3⟩
            have HB3 := Lib.hid (HB.out.trans (hb3.mono HB.out.size))
            clear hb3
            go_wp2_with (go_at_call 78; refine (HBY.out _).mono ?_; rintro e w4 ⟨rfl, hb4⟩)
            go_ret
            exact ⟨rfl, HB3.out.trans (hb4.mono HB3.out.size)⟩
      · have t3 : decide ((56 : Int) ≤ (n : Int)) = true := decide_eq_true (by omega)
        have t4 : decide (56 ≤ n) = true := decide_eq_true (by omega)
        obtain ⟨W2, hW2⟩ : ∃ W2, W2 = (((wr.setRow (w.heap.size + 1) Z).setRow (w.heap.size + 1) C1).setCell ⟨w.heap.size + 1, n, none⟩ (.int .u8 128)) := ⟨_, rfl⟩
        have V0' : Arr w.heap.size 116 .u32 HK.list W2 := by rw [hW2]; exact HA0.out
        have V1' : Arr (w.heap.size + 1) 113 .u8 (lastFirst R) W2 := by rw [hW2]; exact HA2.out
        have VB' : Below w.heap.size w W2 := by rw [hW2]; exact HAB.out
        obtain ⟨CH0, hCH0⟩ : ∃ CH, CH = (natVals .u32 HK.list).toArray := ⟨_, rfl⟩
        obtain ⟨CB0, hCB0⟩ : ∃ CB, CB = (natVals .u8 (lastFirst R)).toArray := ⟨_, rfl⟩
        obtain ⟨CE0, hCE0⟩ : ∃ CE, CE = (natVals .u32 (mixN HK (lastFirst R)).list).toArray := ⟨_, rfl⟩
        have hlf := lastFirst_len R (by rw [HRL.out]; exact hn64)
        have hCH0s : CH0.size = 8 := by rw [hCH0]; rfl
        have hCE0s : CE0.size = 8 := by rw [hCE0]; rfl
        have hCB0s : CB0.size = 64 := by rw [hCB0]; simp [natVals_len, hlf]
        have hCE01 : CE0.all (·.oneCell') = true := by rw [hCE0]; exact natVals_one _ _
        have HM0 := Lib.hid (mix_of HK HOKK.out (lastFirst R) W2 hlf (lastFirst_lt HRLT.out) (HPP.out.grown VB') CH0 CB0 CE0 hCH0 hCB0 hCE0)
        have P0 : Hid (W2.heap[w.heap.size]? = some (.cells CH0 116 (0, 0))) := Lib.hid (by rw [hCH0]; exact V0')
        have P1 : Hid (W2.heap[w.heap.size + 1]? = some (.cells CB0 113 (0, 0))) := Lib.hid (by rw [hCB0]; exact V1')
        have VBW := Lib.hid VB'
        have hs1 := V1'.lt
        have HCE0 := Lib.hid hCE0
        have P0e := P0
        have P1e := P1
        rw [hW2] at P0e P1e
        have HW2 := Lib.hid hW2
        clear hW2 V0' V1' VB' hCH0 hCB0 hCE0 hlf HA0 HA2 HAB
        go_wp2_with (first
          | (refine wpList_store_row rfl 113 _ _ rfl (w.heap.size + 1) Z rfl (by rw [HZ.out]; rfl) 113 _ HH1.out (by rw [hZs]; exact infoArr64) (by rw [hZs]; simp [natVals_len, hll]) hZ1 ?_)
          | (refine wpList_copy_text_to rfl _ _ 43 9 rfl 5 Tryd.underlying43 infoByte (w.heap.size + 1) 64 64 S2 rfl rfl 113 (List.replicate 64 0) HG1.out (by simp) n hmin C1 HC1.out ?_)
          | (refine wpList_load_row rfl 116 _ rfl w.heap.size rfl 116 CH0 (0, 0) _ P0e.out Tryd.underlying116 rfl (by rw [hCH0s]; exact infoArr8) ?_)
          | (refine wpList_load_row rfl 113 _ rfl (w.heap.size + 1) rfl 113 CB0 (0, 0) _ P1e.out Tryd.underlying113 rfl (by rw [hCB0s]; exact infoArr64) ?_))
        rw [← HW2.out]
        refine HM0.out.mono ?_
        rintro e w3 ⟨rfl, hb3⟩
        have hs0 : w.heap.size < W2.heap.size := by omega
        have J0 : Hid (w3.heap[w.heap.size]? = some (.cells CH0 116 (0, 0))) := Lib.hid ((hb3.block _ hs0).trans P0.out)
        have J1 : w3.heap[w.heap.size + 1]? = some (.cells CB0 113 (0, 0)) := (hb3.block _ hs1).trans P1.out
        have J1' : Hid ((w3.setRow w.heap.size CE0).heap[w.heap.size + 1]? = some (.cells CB0 113 (0, 0))) := Lib.hid ((setRow_other w3 w.heap.size (w.heap.size + 1) CE0 (by omega)).trans J1)
        have JB : Below w.heap.size w w3 := VBW.out.trans (hb3.mono VBW.out.size)
        obtain ⟨W5, hW5⟩ : ∃ W5, W5 = (w3.setRow w.heap.size CE0).setRow (w.heap.size + 1) Z := ⟨_, rfl⟩
        obtain ⟨H, hHd⟩ : ∃ H, H = mixN HK (lastFirst R) := ⟨_, rfl⟩
        obtain ⟨Y, hYd⟩ : ∃ Y : List Nat, Y = List.replicate 56 0 := ⟨_, rfl⟩
        have V0 : Hid (Arr w.heap.size 116 .u32 H.list W5) := Lib.hid (by
          rw [hW5, hHd]
          refine (setRow_other _ _ _ Z (by omega)).trans ?_
          rw [setRow_heap w3 w.heap.size _ CE0 _ _ J0.out, ← HCE0.out])
        have V1 : Hid (Arr (w.heap.size + 1) 113 .u8 (tailed Y E 0) W5) := Lib.hid (by
          rw [hW5, tailed_zero _ _ HEL.out, hYd]
          refine (setRow_heap _ _ _ Z _ _ J1'.out).trans ?_
          rw [HZ.out]
          rfl)
        have VB : Hid (Below w.heap.size w W5) := Lib.hid (by rw [hW5]; exact below_setRow (below_setRow JB (Nat.le_refl _) CE0) (by omega) Z)
        have hY : Hid (Y.length = 56) := Lib.hid (by rw [hYd]; simp)
        have hYlt : Hid (∀ x ∈ Y, x < 256) := Lib.hid (by
          rw [hYd]
          intro x hx
          rw [(List.mem_replicate.1 hx).2]
          decide)
        have hOH : Hid H.Ok := Lib.hid (by rw [hHd]; exact mixN_ok _ _)
        have hOUT : Hid (out = (mixN H (Y ++ E)).list.flatMap four) := Lib.hid (by
          rw [HDIG.out, if_neg h56, hHd, hYd]
          rfl)
        have HW5 := Lib.hid hW5
        clear hHd hYd hW5 hb3 J1 JB F1 F2 HG1 HH1 HC1 HDIG HOKK hC1R P0 P1 P0e P1e HM0 VBW HW2 HCE0
        go_wp2_with (first
          | (refine wpList_store_row rfl 116 _ _ rfl w.heap.size CE0 rfl rfl 116 _ J0.out (by rw [hCE0s]; exact infoArr8) (by rw [hCE0s, hCH0s]) hCE01 ?_)
          | (refine wpList_store_row rfl 113 _ _ rfl (w.heap.size + 1) Z rfl (by rw [HZ.out]; rfl) 113 _ J1'.out (by rw [hZs]; exact infoArr64) (by rw [hZs, hCB0s]) hZ1 ?_))
        rw [← HW5.out]
        clear J0 J1' HW5
        go_loopg [40] 8 (fun gh s40 wx => ∃ i : Nat, i + gh = 8 ∧ s40 = .int .i64 (i : Int) ∧ Hid (Arr w.heap.size 116 .u32 H.list wx) ∧ Hid (Arr (w.heap.size + 1) 113 .u8 (tailed Y E i) wx) ∧ Below w.heap.size w wx)
        case atStart => exact ⟨0, rfl, by go_num, V0, V1, VB.out⟩
        case round =>
          obtain ⟨i, hi, rfl, h0, h1, hb⟩ := hrel
          clear V0 V1 VB
          by_cases h8 : i < 8
          · have h8' : (i : Int) < 8 := by omega
            have i0 : 0 ≤ (i : Int) := by omega
            obtain ⟨x, hx⟩ : ∃ x, x = X / 2 ^ (8 * i) % 256 := ⟨_, rfl⟩
            have hEx : E[7 - i]? = some x := by rw [HE.out, hx]; exact eight_at X i h8
            have hT := tailed_succ Y E i x hY.out HEL.out h8 hEx
            have c1 := h1.out.cellD (i := 63 - i) (by rw [tailed_len Y E i hY.out HEL.out (by omega)]; omega)
            have f1 := h1.out.free (63 - i)
            have S1 := h1.out.set (63 - i) x
            rw [hT] at S1
            have HS1 := Lib.hid S1
            have HS0 := Lib.hid (h0.out.other ⟨w.heap.size + 1, 63 - i, none⟩ (.int .u8 (x : Int)) (by simp))
            have HSB := Lib.hid (hb.setCell (p := ⟨w.heap.size + 1, 63 - i, none⟩) (by simp) (.int .u8 (x : Int)))
            have k1 : 0 ≤ 63 - (i : Int) := by omega
            have k2 : 63 - (i : Int) < 64 := by omega
            have k3 : (63 - (i : Int)).toNat = 63 - i := by omega
            have k4 : IntKind.i64.wrap (8 * (i : Int)) = 8 * (i : Int) := by rw [IntKind.wrap_i64]; omega
            have k5 : (8 * (i : Int)).toNat = 8 * i := by omega
            have k6 : 0 ≤ 8 * (i : Int) := by omega
            have k7 : 8 * (i : Int) < 64 := by omega
            have k8 : IntKind.u8.wrap ((X : Int) / 2 ^ (8 * i)) = (x : Int) := by
              rw [IntKind.wrap_u8, hx, Int.natCast_emod, Int.natCast_ediv, Int.natCast_pow]
              rfl
            have k9 : IntKind.i64.wrap (63 - (i : Int)) = 63 - (i : Int) := by rw [IntKind.wrap_i64]; omega
            clear h0 h1 hb hx hEx hT S1
            go_wp2
            go_roundg (8 - (i + 1))
            case measure => omega
            case rel => exact ⟨i + 1, by omega, by go_num, HS0, HS1, HSB.out⟩
          · obtain rfl : i = 8 := by omega
            rw [tailed_all] at h1
            have hYE : (Y ++ E).length = 64 := by rw [List.length_append, hY.out, HEL.out]
            have hYElt : ∀ x ∈ Y ++ E, x < 256 := fun x hx => (List.mem_append.1 hx).elim (hYlt.out x) (HELT.out x)
            obtain ⟨CH, hCH⟩ : ∃ CH, CH = (natVals .u32 H.list).toArray := ⟨_, rfl⟩
            obtain ⟨CB, hCB⟩ : ∃ CB, CB = (natVals .u8 (Y ++ E)).toArray := ⟨_, rfl⟩
            obtain ⟨CE, hCE⟩ : ∃ CE, CE = (natVals .u32 (mixN H (Y ++ E)).list).toArray := ⟨_, rfl⟩
            have hCHs : CH.size = 8 := by rw [hCH]; rfl
            have hCBs : CB.size = 64 := by rw [hCB]; simp [natVals_len, hY.out, HEL.out]
            have G0 : Hid (wr.heap[w.heap.size]? = some (.cells CH 116 (0, 0))) := Lib.hid (by rw [hCH]; exact h0.out)
            have G1 : Hid (wr.heap[w.heap.size + 1]? = some (.cells CB 113 (0, 0))) := Lib.hid (by rw [hCB]; exact h1.out)
            have HM := Lib.hid (mix_of H hOH.out (Y ++ E) wr hYE hYElt (HPP.out.grown hb) CH CB CE hCH hCB hCE)
            have HBY := Lib.hid (fun w => bytesOf_any (mixN H (Y ++ E)) (mixN_ok _ _) w)
            unfold natsVal at HBY
            rw [← hCE, ← hOUT.out] at HBY
            have HB := Lib.hid hb
            clear h0 h1 hb hYE hYElt hCH hCB hCE
            go_wp2_with (first
              | (refine wpList_load_row rfl 116 _ rfl w.heap.size rfl 116 CH (0, 0) _ G0.out Tryd.underlying116 rfl (by rw [hCHs]; exact infoArr8) ?_)
              | (refine wpList_load_row rfl 113 _ rfl (w.heap.size + 1) rfl 113 CB (0, 0) _ G1.out Tryd.underlying113 rfl (by rw [hCBs]; exact infoArr64) ?_))
            refine HM.out.mono ?_
            rintro e w3 ⟨rfl, hb3⟩
            have HB3 := Lib.hid (HB.out.trans (hb3.mono HB.out.size))
            clear hb3
            go_wp2_with (go_at_call 78; refine (HBY.out _).mono ?_; rintro e w4 ⟨rfl, hb4⟩)
            go_ret
            exact ⟨rfl, HB3.out.trans (hb4.mono HB3.out.size)⟩
end Go.Proofs.YtajhegjemhegiaaDoor
