/-
  Texts of one claim, merged.
  JournalQ4: What the program's writer writes, in chapter 10: parts of one kind, one behind the other, by a builder. The conditions: crc's tables; records that lie in memory, few and short.
  JournalQ5: The program's acknowledge and add of chapter 10. The conditions: crc's tables; a device that lies in memory.
  JournalQ6: The program's add of chapter 10. The conditions: crc's tables; a device that lies in memory.
  Ptr: Two devices' pointers compared. No conditions but those typed.
-/
import Derived.Test.YtajkldmpllphjaaDoorPart07
import Derived.Test.YtajkldmpllphjaaDoorPart03
import Derived.LaidEqlPtr
namespace Go.Proofs.YtajkldmpllphjaaDoor
open Go.RowKit BlockMath TextNat JournalMath

def partsK (k g pl : Nat) (xs : List ByteArray) : List Part := xs.map fun x => ⟨k, g, pl, nats x⟩
theorem partsK_records (g pl : Nat) (xs : List ByteArray) : partsK 2 g pl xs = recordsP g pl (xs.map nats) := by
  unfold partsK recordsP
  rw [List.map_map]
  rfl
theorem partsK_snoc {xs : List ByteArray} {i : Nat} {x : ByteArray} (k g pl : Nat) (h : xs[i]? = some x) : enc (partsK k g pl (xs.take (i + 1))) = enc (partsK k g pl (xs.take i)) ++ sealP ⟨k, g, pl, nats x⟩ := by
  rw [List.take_add_one, h]
  unfold partsK
  simp only [List.map_append, Option.toList_some, List.map_cons, List.map_nil]
  rw [enc_append]
  simp [enc]
theorem partsK_len (k g pl : Nat) : ∀ xs : List ByteArray, (enc (partsK k g pl xs)).length ≤ 93 * xs.length + 2 * (xs.map ByteArray.size).sum
  | [] => by simp [partsK, enc]
  | x :: r => by
    have h1 := partsK_len k g pl r
    have h2 := payload_len ⟨k, g, pl, nats x⟩
    have h3 : (sealP ⟨k, g, pl, nats x⟩).length = 21 + 2 * (payload ⟨k, g, pl, nats x⟩).length := FrameMath.framed_len _
    have h4 : (nats x).length = x.size := nats_len x
    show (sealP ⟨k, g, pl, nats x⟩ ++ enc (partsK k g pl r)).length ≤ _
    simp only [List.length_append, List.length_cons, List.map_cons, List.sum_cons]
    simp only [h4] at h2
    omega
theorem smalls_len {xs : List ByteArray} (hs : Small xs) (k g pl i : Nat) : (enc (partsK k g pl (xs.take i))).length ≤ 60000 := by
  have h1 := partsK_len k g pl (xs.take i)
  have h2 := sum_take xs i
  have h3 := hs.few
  have h4 := hs.total
  have h5 : (xs.take i).length ≤ xs.length := by rw [List.length_take]; omega
  omega
/-- A builder of one's own that holds these numbers as bytes. -/
def HoldsS (w : World) (B : Nat) (t : List Nat) : Prop := Lib.IsBuilder 83 5 B B (Lib.strCells (txt t)) w
theorem row_below {w w' : World} {B : Nat} {T : TypeId} {v : Value} {xs : List Value} {n : Nat} (h : w.ownsRow B T 1 v n xs) (hb : Below w.heap.size w w') : w'.ownsRow B T 1 v n xs := by
  refine ⟨h.1, ?_⟩
  rcases h.2 with h2 | ⟨g, cap, cur, h3, h4, h5, h6⟩
  · exact .inl h2
  · exact .inr ⟨g, cap, cur, h3, h4, (hb.block g (Array.getElem?_eq_some_iff.1 h5).1).trans h5, h6⟩
theorem HoldsS.below {w w' : World} {B : Nat} {t : List Nat} (h : HoldsS w B t) (hb : Below w.heap.size w w') : HoldsS w' B t := by
  rcases h with ⟨h0, v, h1, h2, h3⟩ | ⟨h0, v, h1, h2, h3⟩
  · exact .inl ⟨h0, v, (hb.block B (Array.getElem?_eq_some_iff.1 h1).1).trans h1, row_below h2 hb, h3⟩
  · exact .inr ⟨h0, v, (hb.block B (Array.getElem?_eq_some_iff.1 h1).1).trans h1, row_below h2 hb, h3⟩
theorem HoldsS.new (w : World) : HoldsS (w.alloc (.cells #[.pointer none, .slice none 0 0] 83)) w.heap.size [] :=
  .inl ⟨Nat.le_refl _, .slice none 0 0, heap_alloc_new w _, World.ownsRow_nil _ _ _ _, by simp [Value.ownBlock]⟩
theorem cells_more (a b : List Nat) : Lib.strCells (txt a) ++ Lib.strCells (txt b) = Lib.strCells (txt (a ++ b)) := by
  rw [← txt_more]
  unfold Lib.strCells
  rw [ByteArray.data_append, Array.toList_append, List.map_append]
theorem builder_len (t : List Nat) (B : Nat) (w : World) (h : HoldsS w B t) :
    Calls Tryd.prog 38 #[.pointer (some ⟨B, 0, none⟩)] w fun e w' => e = .returned (.int .i64 (t.length : Int)) ∧ w' = w := by
  refine (Tryd.BuilderS_Len B B _ w h).mono ?_
  rintro e w' ⟨rfl, hw⟩
  exact ⟨by rw [Lib.strCells_length, txt_len], hw⟩
theorem builder_put (a b : List Nat) (B : Nat) (w : World) (h : HoldsS w B a) (hl : a.length + b.length ≤ 1000000) (hB : B ≤ w.heap.size) :
    Calls Tryd.prog 39 #[.pointer (some ⟨B, 0, none⟩), .string (txt b)] w fun e w' => (∃ v, e = .returned v) ∧ HoldsS w' B (a ++ b) ∧ Below B w w' := by
  refine (Tryd.BuilderS_WriteString B B _ (txt b) w h (by rw [Lib.strCells_length, txt_len, txt_len]; omega) hB).mono ?_
  rintro e w' ⟨rfl, h1, h2⟩
  rw [cells_more] at h1
  exact ⟨⟨_, rfl⟩, .inr h1, h2⟩
theorem builder_told (t : List Nat) (B : Nat) (w : World) (h : HoldsS w B t) (hB : B ≤ w.heap.size) :
    Calls Tryd.prog 41 #[.pointer (some ⟨B, 0, none⟩)] w fun e w' => e = .returned (.string (txt t)) ∧ Below B w w' :=
  Tryd.BuilderS_String B B (txt t).data.toList w h hB
set_option maxRecDepth 100000 in
set_option maxHeartbeats 4000000 in
theorem pclos_ok (k g pl : Nat) (pp : Option Addr) (cap : Nat) (xs : List ByteArray) (gb pb : Nat) (w : World) (hT : Tables w) (hx : TextsIn w pp xs) (hs : Small xs) (hk : k ≤ WireMath.top) (hg : g ≤ WireMath.top) (hp : pl ≤ WireMath.top)
    (h1 : Lies w gb [.int .i64 (g : Int)] 3) (h2 : Lies w pb [.int .i64 (pl : Int)] 3) :
    Calls Tryd.prog 37 #[.int .i64 (k : Int), .slice pp xs.length cap, ptr gb, ptr pb] w fun e w' => e = .returned (.string (txt (enc (partsK k g pl xs)))) ∧ Below w.heap.size w w' := by
  have HT := Lib.hid hT
  have HX := Lib.hid hx
  have HS := Lib.hid hs
  have HK := Lib.hid hk
  have HG := Lib.hid hg
  have HP := Lib.hid hp
  have L1 := Lib.hid h1
  have L2 := Lib.hid h2
  have HN0 := Lib.hid (HoldsS.new w)
  have HB0 := Lib.hid (show Below w.heap.size w (w.alloc (.cells #[.pointer none, .slice none 0 0] 83)) from (Below.refl _ _).alloc (Nat.le_refl _) _)
  obtain ⟨bb, hbb⟩ : ∃ bb, bb = w.heap.size := ⟨_, rfl⟩
  have HBB := Lib.hid hbb
  obtain ⟨w1, hw1⟩ : ∃ w1, w1 = w.alloc (.cells #[.pointer none, .slice none 0 0] 83) := ⟨_, rfl⟩
  have HW1 := Lib.hid hw1
  rw [← hw1] at HN0 HB0
  rw [← hbb] at HN0 HB0
  obtain ⟨N, hN⟩ : ∃ N, N = xs.length := ⟨_, rfl⟩
  have HN := Lib.hid hN
  have hN9 : N ≤ 450 := by rw [hN]; exact hs.few
  have HFIN := Lib.hid (show xs.take N = xs from List.take_of_length_le (by rw [hN]; exact Nat.le_refl _))
  rw [← hN, ← hbb]
  clear hT hx hs hk hg hp hN h1 h2 hw1 hbb
  go_enter Tryd.func37, Tryd.ntmps37
  go_wp2_with fail
  rw [← HW1.out, ← HBB.out]
  go_loopg [12] N (fun gh s12 wx => ∃ i : Nat, i + gh = N ∧ s12 = .int .i64 (i : Int) ∧ HoldsS wx bb (enc (partsK k g pl (xs.take i))) ∧ Below bb w wx)
  case atStart => exact ⟨0, by omega, by go_num, HN0.out, HB0.out⟩
  case round =>
    obtain ⟨i, hi, rfl, hho, hb⟩ := hrel
    rename World => W
    by_cases hin : i < N
    case neg =>
      have u1 : decide ((i : Int) < (N : Int)) = false := decide_eq_false (by omega)
      have u1' : decide (i < N) = false := decide_eq_false hin
      have HIE := Lib.hid (show i = N by omega)
      have HB2 := Lib.hid hb
      have HHO := Lib.hid hho
      clear hb hi hin hho
      go_wp2_with fail
      refine (builder_told _ bb W HHO.out (by rw [HBB.out]; exact HB2.out.size)).mono ?_
      rintro e w2 ⟨rfl, hb⟩
      have HB3 := Lib.hid (HB2.out.trans hb)
      clear hb
      go_wp2
      go_ret
      exact ⟨by rw [HIE.out, HFIN.out]; rfl, HB3.out⟩
    case pos =>
      have u1 : decide ((i : Int) < (N : Int)) = true := decide_eq_true (by omega)
      have u1' : decide (i < N) = true := decide_eq_true hin
      obtain ⟨x, hxi⟩ : ∃ x, xs[i]? = some x := ⟨_, List.getElem?_eq_getElem (by rw [← HN.out]; exact hin)⟩
      obtain ⟨b, off, rfl, hc⟩ := HX.out i x hxi
      have c0 : W.cell? ⟨b, off + i, none⟩ = some (.string x) := (hb.cell (p := ⟨b, off + i, none⟩) (by rw [HBB.out]; exact World.block_lt_of_cell? w _ hc)).trans hc
      have HXS := Lib.hid (HS.out.short x (List.mem_of_getElem? hxi))
      have HR := Lib.hid (partsK_snoc k g pl hxi)
      have HL := Lib.hid (smalls_len HS.out k g pl i)
      have HB2 := Lib.hid hb
      have HHO := Lib.hid hho
      have HI := Lib.hid hi
      have HIN := Lib.hid hin
      obtain ⟨A, hA⟩ : ∃ A, A = enc (partsK k g pl (xs.take i)) := ⟨_, rfl⟩
      rw [← hA] at HR HL HHO
      have t1 : decide ((1048576 : Int) < (A.length : Int)) = false := decide_eq_false (by have := HL.out; omega)
      have t1' : decide (1048576 < A.length) = false := decide_eq_false (by have := HL.out; omega)
      have d1 := Lies.cell (i := 0) ((show Lies W gb [.int .i64 (g : Int)] 3 from (hb.block gb (by rw [HBB.out]; exact Lies.lt L1.out)).trans L1.out)) rfl
      have d2 := Lies.cell (i := 0) ((show Lies W pb [.int .i64 (pl : Int)] 3 from (hb.block pb (by rw [HBB.out]; exact Lies.lt L2.out)).trans L2.out)) rfl
      clear hb hho hi hxi hc hA
      go_wp2_with fail
      refine (builder_len A bb W HHO.out).mono ?_
      rintro e w2 ⟨rfl, hw2⟩
      rw [hw2]
      clear hw2
      go_wp2_with fail
      refine (pseal_ok k g pl x 0 W (HT.out.grown (by rw [HBB.out] at HB2; exact HB2.out)) HK.out HG.out HP.out (by have := HXS.out; omega)).mono ?_
      rintro e w3 ⟨rfl, hb⟩
      have HSZ := Lib.hid (show bb ≤ W.heap.size by rw [HBB.out]; exact HB2.out.size)
      have HB3 := Lib.hid (HB2.out.trans (hb.mono HSZ.out))
      have HO3 := Lib.hid (HHO.out.below hb)
      have HSL := Lib.hid (show (sealP ⟨k, g, pl, nats x⟩).length ≤ 20000 by
        show (FrameMath.framed _).length ≤ _
        rw [FrameMath.framed_len]
        have h2 := payload_len ⟨k, g, pl, nats x⟩
        have h4 : (nats x).length = x.size := nats_len x
        simp only [h4] at h2
        have := HXS.out
        omega)
      clear hb
      go_wp2_with fail
      refine (builder_put A (sealP ⟨k, g, pl, nats x⟩) bb w3 HO3.out (by have := HL.out; have := HSL.out; omega) (by rw [HBB.out]; exact HB3.out.size)).mono ?_
      rintro e w4 ⟨⟨v, rfl⟩, ho, hb⟩
      have HB4 := Lib.hid (HB3.out.trans hb)
      have HO4 := Lib.hid (show HoldsS w4 bb (enc (partsK k g pl (xs.take (i + 1)))) by rw [HR.out]; exact ho)
      clear hb ho
      go_wp2_with fail
      go_roundg (N - (i + 1))
      case measure => have := HI.out; have := HIN.out; omega
      case rel => exact ⟨i + 1, by have := HIN.out; omega, by go_num, HO4.out, HB4.out⟩
end Go.Proofs.YtajkldmpllphjaaDoor
namespace Go.Proofs.YtajkldmpllphjaaDoor
open Go.RowKit BlockMath TextNat JournalMath

theorem text_one (w : World) (s : ByteArray) : TextsIn (w.alloc (.cells #[.string s] 9)) (some ⟨w.heap.size, 0, none⟩) [s] := by
  intro i x hx
  match i, hx with
  | 0, hx => exact ⟨w.heap.size, 0, rfl, by rw [← Option.some.inj hx]; exact (Lies.new w [.string s] 9).cell (i := 0) rfl⟩
  | i + 1, hx => cases hx
theorem small_one : Small [⟨#[]⟩] := ⟨by decide, fun x hx => by rw [List.mem_singleton.1 hx]; decide, by decide⟩
theorem partsK_one (k g pl : Nat) : enc (partsK k g pl [⟨#[]⟩]) = sealP ⟨k, g, pl, []⟩ := by
  show sealP ⟨k, g, pl, nats ⟨#[]⟩⟩ ++ [] = _
  rw [List.append_nil]
  rfl
set_option maxRecDepth 100000 in
theorem is_terr {w : World} {c : Int} {x : Value} (h : TErr w c x) (other : Int) (ho : other ≠ 0) : Calls Tryd.prog 7 #[x, .iface 33 (.int .i64 other)] w fun e w' => e = .returned (.bool (c == other)) ∧ w' = w := by
  by_cases hc : c = 0
  · obtain rfl := h.zero hc
    rw [show (c == other) = false by rw [beq_eq_false_iff_ne, hc]; exact fun h => ho h.symm]
    clear h hc
    have q : (binOp .eql 29 .nilIface (.iface 33 (.int .i64 other))).run Tryd.prog w = .ok (.bool false) w := by first | rfl | go_simp | (unfold binOp; rfl)
    go_enter Tryd.func7, Tryd.ntmps7
    go_wp2
    go_ret
    exact ⟨rfl, rfl⟩
  · exact is_err (h.not hc).is other
theorem sync_on {d : Dk} (h : (sync d).1 = 0) : (sync d).2.off = false := by
  unfold sync at h ⊢
  split at h
  · rename_i hb
    rw [if_pos hb]
    show (doesD d).off = false
    refine doesD_on_of ?_ hb
    cases ho : d.off with
    | false => rfl
    | true => rw [doesB_off ho] at hb; cases hb
  · cases h
set_option maxRecDepth 100000 in
set_option maxHeartbeats 8000000 in
theorem pack_ok (b g : Nat) (S : Nat → Prop) (d : Dk) (w : World) (hT : Tables w) (hS : Far S) (h : dev.at_ w b S d) (ok : Ok d) (hg : g ≤ WireMath.top) :
    Calls Tryd.prog 43 #[ptr b, .int .i64 (g : Int)] w fun e w' => (∃ x, e = .returned x ∧ TErr w' (JournalMath.marks d g).1 x) ∧ Does dev w b S (JournalMath.marks d g).2 w' := by
  have H1 := Lib.hid (syncOk b S d w h ok)
  have HT := Lib.hid hT
  have HS := Lib.hid hS
  have HB := Lib.hid (Been.start h)
  have OK := Lib.hid ok
  have HG := Lib.hid hg
  clear h hT hS ok hg
  go_enter Tryd.func43, Tryd.ntmps43
  go_wp2_with fail
  refine H1.out.mono ?_
  rintro e w1 ⟨⟨x, rfl, hx⟩, hd⟩
  obtain ⟨S1, hb1⟩ := HB.out.does hd
  have HB1 := Lib.hid hb1
  have X1 := TErr.of hx
  clear hx hd hb1 H1 HB
  by_cases hs : (sync d).1 = 0
  case neg =>
    have hT := X1.not hs
    obtain ⟨T, u, rfl⟩ := hT.iface
    have HX := Lib.hid X1
    have HM := Lib.hid (show JournalMath.marks d g = sync d by unfold JournalMath.marks; rw [if_pos hs])
    clear hT X1 hs
    go_wp2
    go_ret
    rw [HM.out]
    exact ⟨⟨_, rfl, HX.out⟩, HB1.out.to⟩
  case pos =>
    obtain rfl := X1.zero hs
    obtain ⟨d1, hd1⟩ : ∃ d1, d1 = (sync d).2 := ⟨_, rfl⟩
    have OK1 := Lib.hid (show Ok d1 by rw [hd1]; exact OK.out.sync)
    have ON := Lib.hid (show d1.off = false by rw [hd1]; exact sync_on hs)
    have HM := Lib.hid (show JournalMath.marks d g = if (append (txt (sealP ⟨4, g, d1.done.size, []⟩)) d1).1 ≠ 0 then append (txt (sealP ⟨4, g, d1.done.size, []⟩)) d1 else sync (append (txt (sealP ⟨4, g, d1.done.size, []⟩)) d1).2 by unfold JournalMath.marks; rw [if_neg (fun h => h hs), ← hd1])
    rw [← hd1] at HB1
    clear X1 hs hd1
    go_wp2_with fail
    refine (pwriter_ok b g S1 d1 w1 HB1.out.at_ OK1.out).mono ?_
    rintro e w2 ⟨⟨v, rfl, hv⟩, hb⟩
    have HB2 := Lib.hid (HB1.out.below hb)
    obtain ⟨pl, hpl⟩ : ∃ pl, pl = d1.done.size := ⟨_, rfl⟩
    have HPL := Lib.hid (show pl ≤ WireMath.top by have := OK1.out.all; unfold WireMath.top; omega)
    rw [show safeNo d1 = pl by unfold safeNo; rw [ON.out, hpl]; rfl] at hv
    rw [← hpl] at HM
    obtain ⟨gb, pb, -, -, rfl, hl1, hl2⟩ := hv
    have L1 := Lib.hid hl1
    have L2 := Lib.hid hl2
    clear hb HB1 hpl hl1 hl2
    go_wp2_with fail
    have al := (Below.refl w2.heap.size w2).alloc (Nat.le_refl _) (.cells #[.string ⟨#[]⟩] 9)
    have HB3 := Lib.hid (HB2.out.below al)
    refine (pclos_ok 4 g pl _ 1 [⟨#[]⟩] gb pb _ (HB3.out.tables HT.out HS.out) (text_one w2 ⟨#[]⟩) small_one (by decide) HG.out HPL.out (L1.out.below al) (L2.out.below al)).mono ?_
    rintro e w3 ⟨rfl, hb⟩
    rw [partsK_one]
    replace HB3 := Lib.hid (HB3.out.below hb)
    obtain ⟨M, hM⟩ : ∃ M, M = txt (sealP ⟨4, g, pl, []⟩) := ⟨_, rfl⟩
    have HMS := Lib.hid (show M.size ≤ 100000 by
      rw [hM, txt_len]
      show (FrameMath.framed (payload ⟨4, g, pl, []⟩)).length ≤ _
      rw [FrameMath.framed_len]
      have := payload_len ⟨4, g, pl, []⟩
      simp only [List.length_nil] at this
      omega)
    rw [← hM] at HM ⊢
    clear hb al HB2 hM
    go_wp2_with fail
    refine (appendOk b S1 d1 M w3 HB3.out.at_ OK1.out HMS.out).mono ?_
    rintro e w4 ⟨⟨x, rfl, hx⟩, hd⟩
    obtain ⟨S2, hb4⟩ := HB3.out.does hd
    have HB4 := Lib.hid hb4
    have X1 := TErr.of hx
    clear hx hd hb4 HB3
    by_cases ha : (append M d1).1 = 0
    case neg =>
      have hT := X1.not ha
      obtain ⟨T, u, rfl⟩ := hT.iface
      have HX := Lib.hid X1
      have HM2 := Lib.hid (show JournalMath.marks d g = append M d1 by rw [HM.out, if_pos ha])
      clear hT X1 ha
      go_wp2
      go_ret
      rw [HM2.out]
      exact ⟨⟨_, rfl, HX.out⟩, HB4.out.to⟩
    case pos =>
      obtain rfl := X1.zero ha
      obtain ⟨d2, hd2⟩ : ∃ d2, d2 = (append M d1).2 := ⟨_, rfl⟩
      have OK2 := Lib.hid (show Ok d2 by rw [hd2]; exact OK1.out.append M)
      have HM2 := Lib.hid (show JournalMath.marks d g = sync d2 by rw [HM.out, if_neg (fun h => h ha), ← hd2])
      rw [← hd2] at HB4
      clear X1 ha hd2
      go_wp2_with fail
      refine (syncOk b S2 d2 w4 HB4.out.at_ OK2.out).mono ?_
      rintro e w5 ⟨⟨x, rfl, hx⟩, hd⟩
      obtain ⟨S3, hb5⟩ := HB4.out.does hd
      have HB5 := Lib.hid hb5
      have X2 := Lib.hid (TErr.of hx)
      clear hx hd hb5 HB4
      go_wp2
      go_ret
      rw [HM2.out]
      exact ⟨⟨_, rfl, X2.out⟩, HB5.out.to⟩
theorem been_far {w w1 : World} {b : Nat} {S S1 : Nat → Prop} {d : Dk} (h : Been w b S d w1 S1) (hT : Tables w) (hS : Far S) : Far S1 := fun k hk => by
  rcases h.incl k hk with h1 | h1
  · exact hS k h1
  · have h2 := hT.lt
    exact ⟨fun e => by rw [e] at h1; exact absurd h2.1 (Nat.not_lt.2 h1), fun e => by rw [e] at h1; exact absurd h2.2 (Nat.not_lt.2 h1)⟩
theorem ok_marks {d : Dk} (h : Ok d) (g : Nat) : Ok (JournalMath.marks d g).2 := by
  unfold JournalMath.marks
  split
  · exact h.sync
  · split
    · exact h.sync.append _
    · exact (h.sync.append _).sync
end Go.Proofs.YtajkldmpllphjaaDoor
namespace Go.Proofs.YtajkldmpllphjaaDoor
open Go.RowKit BlockMath TextNat JournalMath

def sizeNo (d : Dk) : Nat := if d.off then 0 else (all d).size
theorem size_no (d : Dk) : size d = (sizeNo d : Int) := by
  unfold size sizeNo
  cases d.off <;> rfl
theorem size_no_le {d : Dk} (ok : Ok d) : sizeNo d ≤ 1048576 := by
  have := ok.all
  have h := all_size d
  unfold sizeNo
  split <;> omega
theorem write_off {d : Dk} (g c : Nat) (t : List Nat) (ho : d.off = true) : JournalMath.write d g c t = (5, d) := by
  unfold JournalMath.write undo
  rw [append_off _ ho]
  simp
theorem write_no (d : Dk) (g : Nat) (t : List Nat) : JournalMath.write d g (sizeNo d) t = JournalMath.write d g (all d).size t := by
  cases ho : d.off with
  | false => rw [show sizeNo d = (all d).size by unfold sizeNo; rw [ho]; rfl]
  | true => rw [write_off g _ t ho, write_off g _ t ho]
set_option maxRecDepth 100000 in
set_option maxHeartbeats 8000000 in
theorem padd_ok (b g : Nat) (t : List Nat) (htl : t.length ≤ 100000) (S : Nat → Prop) (d : Dk) (w : World) (hT : Tables w) (hS : Far S) (h : dev.at_ w b S d) (ok : Ok d) (hg : g ≤ WireMath.top) :
    Calls Tryd.prog 23 #[ptr b, .int .i64 (g : Int), .string (txt t)] w fun e w' => (∃ x, e = .returned x ∧ TErr w' (JournalMath.write d g (all d).size t).1 x) ∧ Does dev w b S (JournalMath.write d g (all d).size t).2 w' := by
  rw [← write_no]
  have HL := Lib.hid (lenOk b S d w h ok)
  rw [size_no] at HL
  obtain ⟨c, hc⟩ : ∃ c, c = sizeNo d := ⟨_, rfl⟩
  have HC := Lib.hid (show c ≤ 1048576 by rw [hc]; exact size_no_le ok)
  rw [← hc] at HL ⊢
  have HTL := Lib.hid htl
  have HT := Lib.hid hT
  have HS := Lib.hid hS
  have HB := Lib.hid (Been.start h)
  have OK := Lib.hid ok
  have HG := Lib.hid hg
  clear h hT hS ok hg hc htl
  go_enter Tryd.func23, Tryd.ntmps23
  go_wp2_with fail
  refine HL.out.mono ?_
  rintro e w0 ⟨rfl, hb⟩
  replace HB := Lib.hid (HB.out.below hb)
  clear hb HL
  go_wp2_with fail
  refine (appendOk b S d (txt t) w0 HB.out.at_ OK.out (by rw [txt_len]; exact HTL.out)).mono ?_
  rintro e w1 ⟨⟨x, rfl, hx⟩, hd⟩
  obtain ⟨S1, hb1⟩ := HB.out.does hd
  have HB1 := Lib.hid hb1
  have X1 := TErr.of hx
  clear hx hd hb1 HB
  obtain ⟨A, hA⟩ : ∃ A, A = append (txt t) d := ⟨_, rfl⟩
  have OKA := Lib.hid (show Ok A.2 by rw [hA]; exact OK.out.append _)
  rw [← hA] at X1 HB1
  by_cases ha : A.1 = 0
  case pos =>
    obtain rfl := X1.zero ha
    obtain ⟨R, hR⟩ : ∃ R, R = JournalMath.marks A.2 g := ⟨_, rfl⟩
    have HMR := Lib.hid (show JournalMath.write d g c t = undo c R by unfold JournalMath.write; rw [← hA, if_pos ha, ← hR])
    have OKR := Lib.hid (show Ok R.2 by rw [hR]; exact ok_marks OKA.out g)
    have HRE := Lib.hid hR
    clear X1 ha hA hR
    go_wp2_with fail
    refine (pack_ok b g S1 A.2 w1 (HB1.out.tables HT.out HS.out) (been_far HB1.out HT.out HS.out) HB1.out.at_ OKA.out HG.out).mono ?_
    rintro e w2 ⟨⟨x, rfl, X2⟩, hd⟩
    rw [← HRE.out] at X2 hd
    obtain ⟨S2, hb2⟩ := HB1.out.does hd
    have HB2 := Lib.hid hb2
    clear hd hb2 HB1
    have HE := Lib.hid (is_terr X2 4 (by decide))
    have HX := Lib.hid X2
    by_cases h4 : R.1 = 4
    · rw [show (R.1 == (4 : Int)) = true by rw [beq_iff_eq]; exact h4] at HE
      have HT2 := Lib.hid (X2.not (by omega))
      have H4 := Lib.hid h4
      clear X2 h4
      go_wp2_with (go_at_call 7; refine HE.out.mono ?_; rintro e w8 ⟨rfl, hw8⟩; rw [hw8]; clear hw8)
      refine (cutOk b S2 R.2 (c : Int) w2 HB2.out.at_ OKR.out (by have := HC.out; unfold I64; omega)).mono ?_
      rintro e w9 ⟨⟨y, rfl, hy⟩, hd⟩
      have HE9 := Lib.hid (HT2.out.apart hd.2 (dev_typed HB2.out.at_))
      obtain ⟨S9, hb9⟩ := HB2.out.does hd
      have HB9 := Lib.hid hb9
      have Y := TErr.of hy
      clear hy hd hb9
      by_cases hc0 : (cut (c : Int) R.2).1 = 0
      · obtain rfl := Y.zero hc0
        have HW := Lib.hid (show JournalMath.write d g c t = (4, (cut (c : Int) R.2).2) by rw [HMR.out]; unfold undo; rw [if_pos H4.out, if_neg (fun h => h hc0)])
        clear Y hc0
        go_wp2
        go_ret
        rw [HW.out]
        exact ⟨⟨_, rfl, by unfold TErr; rw [if_neg (show ¬ (4 : Int) = 0 by decide)]; exact H4.out ▸ HE9.out⟩, HB9.out.to⟩
      · have hT9 := Y.not hc0
        obtain ⟨T9, u9, rfl⟩ := hT9.iface
        have HY := Lib.hid Y
        have HW := Lib.hid (show JournalMath.write d g c t = cut (c : Int) R.2 by rw [HMR.out]; unfold undo; rw [if_pos H4.out, if_pos hc0])
        clear Y hc0 hT9
        go_wp2
        go_ret
        rw [HW.out]
        exact ⟨⟨_, rfl, HY.out⟩, HB9.out.to⟩
    · rw [show (R.1 == (4 : Int)) = false by rw [beq_eq_false_iff_ne]; exact h4] at HE
      have HW := Lib.hid (show JournalMath.write d g c t = R by rw [HMR.out]; unfold undo; rw [if_neg h4])
      clear X2 h4
      go_wp2_with (go_at_call 7; refine HE.out.mono ?_; rintro e w8 ⟨rfl, hw8⟩; rw [hw8]; clear hw8)
      go_ret
      rw [HW.out]
      exact ⟨⟨_, rfl, HX.out⟩, HB2.out.to⟩
  case neg =>
    have HMR := Lib.hid (show JournalMath.write d g c t = undo c A by unfold JournalMath.write; rw [← hA, if_neg ha])
    have hT := X1.not ha
    obtain ⟨T, u, rfl⟩ := hT.iface
    clear hT ha hA
    have HE := Lib.hid (is_terr X1 4 (by decide))
    have HX := Lib.hid X1
    by_cases h4 : A.1 = 4
    · rw [show (A.1 == (4 : Int)) = true by rw [beq_iff_eq]; exact h4] at HE
      have HT2 := Lib.hid (X1.not (by omega))
      have H4 := Lib.hid h4
      clear X1 h4
      go_wp2_with (go_at_call 7; refine HE.out.mono ?_; rintro e w8 ⟨rfl, hw8⟩; rw [hw8]; clear hw8)
      refine (cutOk b S1 A.2 (c : Int) w1 HB1.out.at_ OKA.out (by have := HC.out; unfold I64; omega)).mono ?_
      rintro e w9 ⟨⟨y, rfl, hy⟩, hd⟩
      have HE9 := Lib.hid (HT2.out.apart hd.2 (dev_typed HB1.out.at_))
      obtain ⟨S9, hb9⟩ := HB1.out.does hd
      have HB9 := Lib.hid hb9
      have Y := TErr.of hy
      clear hy hd hb9
      by_cases hc0 : (cut (c : Int) A.2).1 = 0
      · obtain rfl := Y.zero hc0
        have HW := Lib.hid (show JournalMath.write d g c t = (4, (cut (c : Int) A.2).2) by rw [HMR.out]; unfold undo; rw [if_pos H4.out, if_neg (fun h => h hc0)])
        clear Y hc0
        go_wp2
        go_ret
        rw [HW.out]
        exact ⟨⟨_, rfl, by unfold TErr; rw [if_neg (show ¬ (4 : Int) = 0 by decide)]; exact H4.out ▸ HE9.out⟩, HB9.out.to⟩
      · have hT9 := Y.not hc0
        obtain ⟨T9, u9, rfl⟩ := hT9.iface
        have HY := Lib.hid Y
        have HW := Lib.hid (show JournalMath.write d g c t = cut (c : Int) A.2 by rw [HMR.out]; unfold undo; rw [if_pos H4.out, if_pos hc0])
        clear Y hc0 hT9
        go_wp2
        go_ret
        rw [HW.out]
        exact ⟨⟨_, rfl, HY.out⟩, HB9.out.to⟩
    · rw [show (A.1 == (4 : Int)) = false by rw [beq_eq_false_iff_ne]; exact h4] at HE
      have HW := Lib.hid (show JournalMath.write d g c t = A by rw [HMR.out]; unfold undo; rw [if_neg h4])
      clear X1 h4
      go_wp2_with (go_at_call 7; refine HE.out.mono ?_; rintro e w8 ⟨rfl, hw8⟩; rw [hw8]; clear hw8)
      go_ret
      rw [HW.out]
      exact ⟨⟨_, rfl, HX.out⟩, HB1.out.to⟩
end Go.Proofs.YtajkldmpllphjaaDoor
namespace Go.Proofs.YtajkldmpllphjaaDoor
open Go.RowKit BlockMath TextNat

theorem info_disk : (Tryd.prog.info? 56).map (fun i => i.size) = some 6 := by kernel_rfl
theorem disk_parts : ∃ i, Tryd.prog.info? 56 = some i ∧ i.size ≠ 0 := by
  have h := info_disk
  cases hi : Tryd.prog.info? 56 with
  | none => rw [hi] at h; cases h
  | some i =>
    rw [hi] at h
    simp only [Option.map_some, Option.some.injEq] at h
    exact ⟨i, rfl, by omega⟩
theorem ptr_ne {w : World} {x y : Nat} {S T : Nat → Prop} {a b : Dk} (ha : dev.at_ w x S a) (hb : dev.at_ w y T b) (ne : x ≠ y) : (binOp .eql 23 (ptr x) (ptr y)).run Tryd.prog w = .ok (.bool false) w := by
  obtain ⟨i, h1, h2⟩ := disk_parts
  obtain ⟨_, _, _, _, _, h3, _⟩ := ha
  obtain ⟨_, _, _, _, _, h4, _⟩ := hb
  exact run_eql_ptr_other w Tryd.underlying23 h1 h2 (fun h => ne (by cases h; rfl)) h3.lies h4.lies
theorem ptr_eq (x : Nat) (w : World) : (binOp .eql 23 (ptr x) (ptr x)).run Tryd.prog w = .ok (.bool true) w := by
  obtain ⟨i, h1, h2⟩ := disk_parts
  exact run_eql_ptr_same w _ Tryd.underlying23 h1
end Go.Proofs.YtajkldmpllphjaaDoor
