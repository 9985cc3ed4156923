/-
  The program's reading of a part at a place of chapter 10. The conditions: crc's tables; texts of at most 16,777,216 bytes.
-/
import Derived.Test.YtajkldmpllphjaaDoorPart07
import Derived.Test.YtajkldmpllphjaaDoorPart04
import Derived.Test.YtajkldmpllphjaaDoorWireInText
import Derived.Test.YtajkldmpllphjaaDoorPart09
import Derived.Test.YtajkldmpllphjaaDoorPart02
import Derived.Test.YtajkldmpllphjaaDoorFrameWhole
import Derived.OwnWalk
namespace Go.Proofs.YtajkldmpllphjaaDoor
open Go.RowKit FrameMath TextNat JournalMath

/-- What read answers. -/
def ReadIs (l : List Nat) (i : Nat) (e : Ending) : Prop := match atP l i with
  | some (p, n) => e = .returned (.tuple #[.agg #[.int .i64 (p.kind : Int), .int .i64 (p.gen : Int), .int .i64 (p.place : Int), .string (txt p.text), .int .i64 (n : Int)], .bool true])
  | none => e = .returned (.tuple #[.agg #[.int .i64 0, .int .i64 0, .int .i64 0, .string ⟨#[]⟩, .int .i64 0], .bool false])
theorem ReadIs.not {l : List Nat} {i : Nat} {e : Ending} (h : atP l i = Option.none) (he : e = .returned (.tuple #[.agg #[.int .i64 0, .int .i64 0, .int .i64 0, .string ⟨#[]⟩, .int .i64 0], .bool false])) : ReadIs l i e := by
  unfold ReadIs
  rw [h]
  exact he
theorem ReadIs.is {l : List Nat} {i n : Nat} {p : Part} {e : Ending} (h : atP l i = Option.some (p, n)) (he : e = .returned (.tuple #[.agg #[.int .i64 (p.kind : Int), .int .i64 (p.gen : Int), .int .i64 (p.place : Int), .string (txt p.text), .int .i64 (n : Int)], .bool true])) : ReadIs l i e := by
  unfold ReadIs
  rw [h]
  exact he
theorem lies_five {w : World} {b : Nat} {a0 a1 a2 a3 a4 : Value} {T : TypeId} (h : Lies w b [a0, a1, a2, a3, a4] T) (v0 v1 v2 v3 v4 : Value) : Lies (((((w.setCell ⟨b, 0, none⟩ v0).setCell ⟨b, 1, none⟩ v1).setCell ⟨b, 2, none⟩ v2).setCell ⟨b, 3, none⟩ v3).setCell ⟨b, 4, none⟩ v4) b [v0, v1, v2, v3, v4] T :=
  ((((h.set 0 v0).set 1 v1).set 2 v2).set 3 v3).set 4 v4
theorem but_five {B b : Nat} {a w : World} (h : Below B a w) (hb : B ≤ b) (v0 v1 v2 v3 v4 : Value) : Below B a (((((w.setCell ⟨b, 0, none⟩ v0).setCell ⟨b, 1, none⟩ v1).setCell ⟨b, 2, none⟩ v2).setCell ⟨b, 3, none⟩ v3).setCell ⟨b, 4, none⟩ v4) :=
  own_store (own_store (own_store (own_store (own_store h hb) hb) hb) hb) hb
theorem below_but {B pb : Nat} {w w' : World} (h : But pb w w') (hp : B ≤ pb) (hB : B ≤ w.heap.size) : Below B w w' := ⟨h.os, h.tape, h.output, h.size, fun k hk => h.block k (by omega) (by omega)⟩
set_option maxRecDepth 100000 in
set_option maxHeartbeats 8000000 in
theorem pread_ok (s : ByteArray) (i : Nat) (w : World) (hT : Tables w) (hs : s.size ≤ 16777216) (hi : i ≤ 16777216) :
    Calls Tryd.prog 47 #[.string s, .int .i64 (i : Int)] w fun e w' => ReadIs (nats s) i e ∧ Below w.heap.size w w' := by
  have HO := Lib.hid (fun w1 (h : Tables w1) => openBig s (i : Int) w1 h hs (by unfold I64; omega))
  have HT := Lib.hid hT
  have HF := Lib.hid (show openF (nats s) (i : Int) = stands ((nats s).drop i) by
    unfold openF
    by_cases h : i < (nats s).length
    · rw [if_pos (by omega)]
      rfl
    · rw [if_neg (by omega), List.drop_of_length_le (by omega)]
      rfl)
  have HN := Lib.hid (nats_ok s)
  clear hT
  go_enter Tryd.func47, Tryd.ntmps47
  go_wp2_with fail
  obtain ⟨rb, hrb⟩ : ∃ rb, rb = w.heap.size := ⟨_, rfl⟩
  have HRB := Lib.hid hrb
  have L1 := Lib.hid (Lies.new w [.int .i64 0, .int .i64 0, .int .i64 0, .string ⟨#[]⟩, .int .i64 0] 87)
  have B1 := Lib.hid (show Below w.heap.size w (w.alloc (.cells #[.int .i64 0, .int .i64 0, .int .i64 0, .string ⟨#[]⟩, .int .i64 0] 87)) from (Below.refl _ _).alloc (Nat.le_refl _) _)
  obtain ⟨w1, hw1⟩ : ∃ w1, w1 = w.alloc (.cells #[.int .i64 0, .int .i64 0, .int .i64 0, .string ⟨#[]⟩, .int .i64 0] 87) := ⟨_, rfl⟩
  rw [← hw1] at B1 ⊢
  replace L1 := Lib.hid (show Lies w1 rb [.int .i64 0, .int .i64 0, .int .i64 0, .string ⟨#[]⟩, .int .i64 0] 87 by rw [hw1, hrb]; exact L1.out)
  rw [← hrb]
  clear hw1 hrb
  refine (HO.out w1 (HT.out.grown B1.out)).mono ?_
  rintro e w2 ⟨ho, hb⟩
  have B2 := Lib.hid (B1.out.trans (hb.mono B1.out.size))
  have L2 := Lib.hid (L1.out.below hb)
  clear hb L1
  unfold OpenIs at ho
  rw [HF.out] at ho
  have c0 := Lies.cell (i := 0) L2.out rfl
  have c1 := Lies.cell (i := 1) L2.out rfl
  have c2 := Lies.cell (i := 2) L2.out rfl
  have c3 := Lies.cell (i := 3) L2.out rfl
  have c4 := Lies.cell (i := 4) L2.out rfl
  have f0 := Lies.free L2.out 0
  have f1 := Lies.free L2.out 1
  have f2 := Lies.free L2.out 2
  have f3 := Lies.free L2.out 3
  have f4 := Lies.free L2.out 4
  cases hst : stands ((nats s).drop i) with
  | none =>
    have HX := Lib.hid (show atP (nats s) i = none by unfold atP; rw [hst])
    rw [hst] at ho
    obtain ⟨x, rfl, hx⟩ := ho
    obtain ⟨T, u, rfl⟩ : ∃ T u, x = .iface T u := by
      obtain ⟨l, hl⟩ := hx
      exact hl.some
    clear hx hst
    go_wp2_with fail
    have q2 := lies_five L2.out (.int .i64 0) (.int .i64 0) (.int .i64 0) (.string ⟨#[]⟩) (.int .i64 0)
    refine bodyPost_ret (results_cell_tmp Tryd.results47 _ _ rb 87 _ (0, 0) _ rfl q2 Tryd.underlying87 rfl (by kernel_rfl)) rfl ?_
    exact ⟨ReadIs.not HX.out rfl, but_five B2.out (Nat.le_of_eq HRB.out.symm) _ _ _ _ _⟩
  | some t =>
    rw [hst] at ho
    obtain rfl := ho
    obtain ⟨r0, hr0, h8⟩ := stands_is hst
    have hto := stands_bytes hst (fun b hb => HN.out b (List.mem_of_mem_drop hb))
    obtain ⟨PT, hPT⟩ : ∃ PT, PT = txt t := ⟨_, rfl⟩
    have HPN := Lib.hid (show nats PT = t by rw [hPT]; exact nats_txt t hto)
    have HPS := Lib.hid (show PT.size ≤ 200000 by rw [hPT, txt_len]; omega)
    obtain ⟨N, hN⟩ : ∃ N : Nat, (N : Int) = (i : Int) + ((framed t).length : Int) := ⟨i + (framed t).length, by omega⟩
    have HAT := Lib.hid (show atP (nats s) i = (readP t).map fun p => (p, N) by
      unfold atP
      rw [hst, show N = i + (framed t).length by omega])
    have HTO := Lib.hid hto
    rw [← hPT, ← hN]
    clear hr0 h8 hto hPT hN hst
    go_wp2_with fail
    refine (inRead_ok PT w2).mono ?_
    rintro e w3 ⟨rfl, hin, hb, hsz⟩
    obtain ⟨pb, hpb⟩ : ∃ pb, pb = w2.heap.size := ⟨_, rfl⟩
    obtain ⟨qb, hqb⟩ : ∃ qb, qb = w3.heap.size := ⟨_, rfl⟩
    rw [← hpb] at hin ⊢
    have HPQ := Lib.hid (show pb ≠ qb ∧ rb ≠ pb ∧ rb ≠ qb ∧ w.heap.size ≤ pb ∧ w.heap.size ≤ qb ∧ w.heap.size ≤ rb by
      have h1 := L2.out.lt
      have h2 := B2.out.size
      have h3 := HRB.out
      refine ⟨by omega, by omega, by omega, by omega, by omega, by omega⟩)
    have B3 := Lib.hid (B2.out.trans (hb.mono B2.out.size))
    have L3 := Lib.hid (L2.out.below hb)
    have al := (Below.refl w3.heap.size w3).alloc (Nat.le_refl _) (.cells #[.int .i64 0, .int .i64 0, .int .i64 0, .string ⟨#[]⟩, .int .i64 (N : Int)] 87)
    have I4 := Lib.hid (hin.below al)
    have B4 := Lib.hid (B3.out.trans (al.mono B3.out.size))
    have R4 := Lib.hid (L3.out.below al)
    have Q4 := Lib.hid (show Lies (w3.alloc (.cells #[.int .i64 0, .int .i64 0, .int .i64 0, .string ⟨#[]⟩, .int .i64 (N : Int)] 87)) qb [.int .i64 0, .int .i64 0, .int .i64 0, .string ⟨#[]⟩, .int .i64 (N : Int)] 87 by rw [hqb]; exact Lies.new w3 _ _)
    have HQB := Lib.hid hqb
    clear hpb hqb hin hb hsz B3 L3 B2 L2 al c0 c1 c2 c3 c4 f0 f1 f2 f3 f4
    go_wp2_with fail
    rw [← HQB.out]
    obtain ⟨w4, hw4⟩ : ∃ w4, w4 = w3.alloc (.cells #[.int .i64 0, .int .i64 0, .int .i64 0, .string ⟨#[]⟩, .int .i64 (N : Int)] 87) := ⟨_, rfl⟩
    rw [← hw4] at I4 B4 R4 Q4 ⊢
    clear hw4 HQB
    obtain ⟨v1, st1, E1⟩ : ∃ v st, Hid (WireMath.readNum t ⟨0, none⟩ 4 = (v, st)) := ⟨_, _, Lib.hid rfl⟩
    obtain ⟨v2, st2, E2⟩ : ∃ v st, Hid (WireMath.readNum t st1 1099511627776 = (v, st)) := ⟨_, _, Lib.hid rfl⟩
    obtain ⟨v3, st3, E3⟩ : ∃ v st, Hid (WireMath.readNum t st2 1099511627776 = (v, st)) := ⟨_, _, Lib.hid rfl⟩
    obtain ⟨v4, st4, E4⟩ : ∃ v st, Hid (WireMath.readText t st3 4096 = (v, st)) := ⟨_, _, Lib.hid rfl⟩
    have A0 := Lib.hid (show (0 : Nat) ≤ PT.size from Nat.zero_le _)
    have HTL := Lib.hid (show PT.size = t.length by rw [← nats_len, HPN.out])
    have A1 := Lib.hid (show st1.at_ ≤ PT.size by have := WireMath.readNum_le t ⟨0, none⟩ 4 HTO.out (Nat.zero_le _); rw [E1.out] at this; rw [HTL.out]; exact this)
    have A2 := Lib.hid (show st2.at_ ≤ PT.size by have := WireMath.readNum_le t st1 1099511627776 HTO.out (by rw [← HTL.out]; exact A1.out); rw [E2.out] at this; rw [HTL.out]; exact this)
    have A3 := Lib.hid (show st3.at_ ≤ PT.size by have := WireMath.readNum_le t st2 1099511627776 HTO.out (by rw [← HTL.out]; exact A2.out); rw [E3.out] at this; rw [HTL.out]; exact this)
    have HV := Lib.hid (show readPartT t 4 1099511627776 1099511627776 4096 ⟨0, none⟩ = ((v1, v2, v3, v4), st4) by
      unfold readPartT WireMath.seq
      simp only [E1.out, E2.out, E3.out, E4.out])
    refine (inNum_ok pb PT ⟨0, none⟩ 4 w4 I4.out HPS.out A0.out).mono ?_
    rintro e a5 ⟨rfl, hin, hb⟩
    have hv : WireMath.readNum (nats PT) ⟨0, none⟩ 4 = (v1, st1) := by rw [HPN.out]; exact E1.out
    rw [hv] at hin ⊢
    have Q := Lib.hid (Q4.out.but hb HPQ.out.1.symm)
    have cq := Lies.cell (i := 0) Q.out rfl
    have fq := Lies.free Q.out 0
    have I5 := Lib.hid (InAt.keep (w' := a5.setCell ⟨qb, 0, none⟩ (.int .i64 (v1 : Int))) (show InAt a5 pb PT st1 from hin) (But.set qb 0 _ _) HPQ.out.1)
    have Q5 := Lib.hid (show Lies (a5.setCell ⟨qb, 0, none⟩ (.int .i64 (v1 : Int))) qb [.int .i64 (v1 : Int), .int .i64 0, .int .i64 0, .string ⟨#[]⟩, .int .i64 (N : Int)] 87 from Q.out.set 0 (.int .i64 (v1 : Int)))
    have R5 := Lib.hid (show Lies (a5.setCell ⟨qb, 0, none⟩ (.int .i64 (v1 : Int))) rb [.int .i64 0, .int .i64 0, .int .i64 0, .string ⟨#[]⟩, .int .i64 0] 87 from (R4.out.but hb HPQ.out.2.1).but (But.set qb 0 _ _) HPQ.out.2.2.1)
    have B5 := Lib.hid (show Below w.heap.size w (a5.setCell ⟨qb, 0, none⟩ (.int .i64 (v1 : Int))) from own_store (B4.out.trans (below_but hb HPQ.out.2.2.2.1 B4.out.size)) HPQ.out.2.2.2.2.1)
    clear hin hb hv I4 Q4 R4 B4
    go_wp2_with fail
    clear cq fq Q
    obtain ⟨w5, hw⟩ : ∃ x, x = a5.setCell ⟨qb, 0, none⟩ (.int .i64 (v1 : Int)) := ⟨_, rfl⟩
    rw [← hw] at I5 Q5 R5 B5 ⊢
    clear hw
    refine (inNum_ok pb PT st1 1099511627776 w5 I5.out HPS.out A1.out).mono ?_
    rintro e a6 ⟨rfl, hin, hb⟩
    have hv : WireMath.readNum (nats PT) st1 1099511627776 = (v2, st2) := by rw [HPN.out]; exact E2.out
    rw [hv] at hin ⊢
    have Q := Lib.hid (Q5.out.but hb HPQ.out.1.symm)
    have cq := Lies.cell (i := 1) Q.out rfl
    have fq := Lies.free Q.out 1
    have I6 := Lib.hid (InAt.keep (w' := a6.setCell ⟨qb, 1, none⟩ (.int .i64 (v2 : Int))) (show InAt a6 pb PT st2 from hin) (But.set qb 1 _ _) HPQ.out.1)
    have Q6 := Lib.hid (show Lies (a6.setCell ⟨qb, 1, none⟩ (.int .i64 (v2 : Int))) qb [.int .i64 (v1 : Int), .int .i64 (v2 : Int), .int .i64 0, .string ⟨#[]⟩, .int .i64 (N : Int)] 87 from Q.out.set 1 (.int .i64 (v2 : Int)))
    have R6 := Lib.hid (show Lies (a6.setCell ⟨qb, 1, none⟩ (.int .i64 (v2 : Int))) rb [.int .i64 0, .int .i64 0, .int .i64 0, .string ⟨#[]⟩, .int .i64 0] 87 from (R5.out.but hb HPQ.out.2.1).but (But.set qb 1 _ _) HPQ.out.2.2.1)
    have B6 := Lib.hid (show Below w.heap.size w (a6.setCell ⟨qb, 1, none⟩ (.int .i64 (v2 : Int))) from own_store (B5.out.trans (below_but hb HPQ.out.2.2.2.1 B5.out.size)) HPQ.out.2.2.2.2.1)
    clear hin hb hv I5 Q5 R5 B5
    go_wp2_with fail
    clear cq fq Q
    obtain ⟨w6, hw⟩ : ∃ x, x = a6.setCell ⟨qb, 1, none⟩ (.int .i64 (v2 : Int)) := ⟨_, rfl⟩
    rw [← hw] at I6 Q6 R6 B6 ⊢
    clear hw
    refine (inNum_ok pb PT st2 1099511627776 w6 I6.out HPS.out A2.out).mono ?_
    rintro e a7 ⟨rfl, hin, hb⟩
    have hv : WireMath.readNum (nats PT) st2 1099511627776 = (v3, st3) := by rw [HPN.out]; exact E3.out
    rw [hv] at hin ⊢
    have Q := Lib.hid (Q6.out.but hb HPQ.out.1.symm)
    have cq := Lies.cell (i := 2) Q.out rfl
    have fq := Lies.free Q.out 2
    have I7 := Lib.hid (InAt.keep (w' := a7.setCell ⟨qb, 2, none⟩ (.int .i64 (v3 : Int))) (show InAt a7 pb PT st3 from hin) (But.set qb 2 _ _) HPQ.out.1)
    have Q7 := Lib.hid (show Lies (a7.setCell ⟨qb, 2, none⟩ (.int .i64 (v3 : Int))) qb [.int .i64 (v1 : Int), .int .i64 (v2 : Int), .int .i64 (v3 : Int), .string ⟨#[]⟩, .int .i64 (N : Int)] 87 from Q.out.set 2 (.int .i64 (v3 : Int)))
    have R7 := Lib.hid (show Lies (a7.setCell ⟨qb, 2, none⟩ (.int .i64 (v3 : Int))) rb [.int .i64 0, .int .i64 0, .int .i64 0, .string ⟨#[]⟩, .int .i64 0] 87 from (R6.out.but hb HPQ.out.2.1).but (But.set qb 2 _ _) HPQ.out.2.2.1)
    have B7 := Lib.hid (show Below w.heap.size w (a7.setCell ⟨qb, 2, none⟩ (.int .i64 (v3 : Int))) from own_store (B6.out.trans (below_but hb HPQ.out.2.2.2.1 B6.out.size)) HPQ.out.2.2.2.2.1)
    clear hin hb hv I6 Q6 R6 B6
    go_wp2_with fail
    clear cq fq Q
    obtain ⟨w7, hw⟩ : ∃ x, x = a7.setCell ⟨qb, 2, none⟩ (.int .i64 (v3 : Int)) := ⟨_, rfl⟩
    rw [← hw] at I7 Q7 R7 B7 ⊢
    clear hw
    refine (inText_ok pb PT st3 4096 w7 I7.out HPS.out A3.out).mono ?_
    rintro e a8 ⟨rfl, hin, hb⟩
    have hv : WireMath.readText (nats PT) st3 4096 = (v4, st4) := by rw [HPN.out]; exact E4.out
    rw [hv] at hin ⊢
    have Q := Lib.hid (Q7.out.but hb HPQ.out.1.symm)
    have cq := Lies.cell (i := 3) Q.out rfl
    have fq := Lies.free Q.out 3
    have I8 := Lib.hid (InAt.keep (w' := a8.setCell ⟨qb, 3, none⟩ (.string (txt v4))) (show InAt a8 pb PT st4 from hin) (But.set qb 3 _ _) HPQ.out.1)
    have Q8 := Lib.hid (show Lies (a8.setCell ⟨qb, 3, none⟩ (.string (txt v4))) qb [.int .i64 (v1 : Int), .int .i64 (v2 : Int), .int .i64 (v3 : Int), .string (txt v4), .int .i64 (N : Int)] 87 from Q.out.set 3 (.string (txt v4)))
    have R8 := Lib.hid (show Lies (a8.setCell ⟨qb, 3, none⟩ (.string (txt v4))) rb [.int .i64 0, .int .i64 0, .int .i64 0, .string ⟨#[]⟩, .int .i64 0] 87 from (R7.out.but hb HPQ.out.2.1).but (But.set qb 3 _ _) HPQ.out.2.2.1)
    have B8 := Lib.hid (show Below w.heap.size w (a8.setCell ⟨qb, 3, none⟩ (.string (txt v4))) from own_store (B7.out.trans (below_but hb HPQ.out.2.2.2.1 B7.out.size)) HPQ.out.2.2.2.2.1)
    clear hin hb hv I7 Q7 R7 B7
    go_wp2_with fail
    clear cq fq Q
    obtain ⟨w8, hw⟩ : ∃ x, x = a8.setCell ⟨qb, 3, none⟩ (.string (txt v4)) := ⟨_, rfl⟩
    rw [← hw] at I8 Q8 R8 B8 ⊢
    clear hw
    refine (inEnd_ok pb PT st4 w8 I8.out).mono ?_
    rintro e w9 ⟨he, hb⟩
    have R9 := Lib.hid (R8.out.below hb)
    have Q9 := Lib.hid (Q8.out.below hb)
    have B9 := Lib.hid (B8.out.trans (hb.mono B8.out.size))
    clear hb R8 Q8 B8 I8
    unfold EndIs at he
    rw [HPN.out] at he
    obtain ⟨RD, RM⟩ := read_is HTO.out (show wideP 4 1099511627776 1099511627776 4096 by unfold wideP JournalMath.big; omega) HV.out
    obtain ⟨T4, hT4⟩ : ∃ T4, T4 = txt v4 := ⟨_, rfl⟩
    have HT4 := Lib.hid hT4
    rw [← hT4] at Q9 ⊢
    clear hT4 E1 E2 E3 E4 A0 A1 A2 A3 HV
    cases hf : WireMath.faultAt t st4 with
    | some k =>
      rw [hf] at he RD
      obtain ⟨x, rfl, hx⟩ := he
      obtain ⟨T, u, rfl⟩ := hx.some
      have HX := Lib.hid (show atP (nats s) i = none by rw [HAT.out, RD, if_neg (fun h => by cases h.1)]; rfl)
      clear hx RD RM hf
      have c0 := Lies.cell (i := 0) R9.out rfl
      have f0 := Lies.free R9.out 0
      have c1 := Lies.cell (i := 1) R9.out rfl
      have f1 := Lies.free R9.out 1
      have c2 := Lies.cell (i := 2) R9.out rfl
      have f2 := Lies.free R9.out 2
      have c3 := Lies.cell (i := 3) R9.out rfl
      have f3 := Lies.free R9.out 3
      have c4 := Lies.cell (i := 4) R9.out rfl
      have f4 := Lies.free R9.out 4
      go_wp2_with fail
      have q2 := lies_five R9.out (.int .i64 0) (.int .i64 0) (.int .i64 0) (.string ⟨#[]⟩) (.int .i64 0)
      refine bodyPost_ret (results_cell_tmp Tryd.results47 _ _ rb 87 _ (0, 0) _ rfl q2 Tryd.underlying87 rfl (by kernel_rfl)) rfl ?_
      exact ⟨ReadIs.not HX.out rfl, but_five B9.out HPQ.out.2.2.2.2.2 _ _ _ _ _⟩
    | none =>
      rw [hf] at he RD
      obtain rfl := he
      obtain ⟨⟨m1, m1'⟩, ⟨m2, _⟩, ⟨m3, _⟩, m4, _⟩ := RM hf
      replace m1 : (v1 : Int) ≤ 4 := m1
      replace m2 : (v2 : Int) ≤ 1099511627776 := m2
      replace m3 : (v3 : Int) ≤ 1099511627776 := m3
      replace m4 : (v4.length : Int) ≤ 4096 := m4
      clear RM hf
      have c0 := Lies.cell (i := 0) R9.out rfl
      have f0 := Lies.free R9.out 0
      have c1 := Lies.cell (i := 1) R9.out rfl
      have f1 := Lies.free R9.out 1
      have c2 := Lies.cell (i := 2) R9.out rfl
      have f2 := Lies.free R9.out 2
      have c3 := Lies.cell (i := 3) R9.out rfl
      have f3 := Lies.free R9.out 3
      have c4 := Lies.cell (i := 4) R9.out rfl
      have f4 := Lies.free R9.out 4
      have cq0 := Lies.cell (i := 0) Q9.out rfl
      have fq0 := Lies.free Q9.out 0
      have cq1 := Lies.cell (i := 1) Q9.out rfl
      have fq1 := Lies.free Q9.out 1
      have cq2 := Lies.cell (i := 2) Q9.out rfl
      have fq2 := Lies.free Q9.out 2
      have cq3 := Lies.cell (i := 3) Q9.out rfl
      have fq3 := Lies.free Q9.out 3
      have cq4 := Lies.cell (i := 4) Q9.out rfl
      have fq4 := Lies.free Q9.out 4
      by_cases d1 : v1 < 1
      · have u1 : decide ((v1 : Int) < 1) = true := decide_eq_true (by omega)
        have u1' : decide (v1 < 1) = true := decide_eq_true d1
        have HX := Lib.hid (show atP (nats s) i = none by rw [HAT.out, RD, if_neg (fun h => by have := h.2; unfold rightPart at this; simp only [Bool.and_eq_true, decide_eq_true_eq] at this; omega)]; rfl)
        clear RD m1 m1' m2 m3 m4 d1
        go_wp2_with fail
        have q2 := lies_five R9.out (.int .i64 0) (.int .i64 0) (.int .i64 0) (.string ⟨#[]⟩) (.int .i64 0)
        refine bodyPost_ret (results_cell_tmp Tryd.results47 _ _ rb 87 _ (0, 0) _ rfl q2 Tryd.underlying87 rfl (by kernel_rfl)) rfl ?_
        exact ⟨ReadIs.not HX.out rfl, but_five B9.out HPQ.out.2.2.2.2.2 _ _ _ _ _⟩
      have u1 : decide ((v1 : Int) < 1) = false := decide_eq_false (by omega)
      have u1' : decide (v1 < 1) = false := decide_eq_false d1
      by_cases d2 : v2 < 1
      · have u2 : decide ((v2 : Int) < 1) = true := decide_eq_true (by omega)
        have u2' : decide (v2 < 1) = true := decide_eq_true d2
        have HX := Lib.hid (show atP (nats s) i = none by rw [HAT.out, RD, if_neg (fun h => by have := h.2; unfold rightPart at this; simp only [Bool.and_eq_true, decide_eq_true_eq] at this; omega)]; rfl)
        clear RD m1 m1' m2 m3 m4 d1 d2
        go_wp2_with fail
        have q2 := lies_five R9.out (.int .i64 0) (.int .i64 0) (.int .i64 0) (.string ⟨#[]⟩) (.int .i64 0)
        refine bodyPost_ret (results_cell_tmp Tryd.results47 _ _ rb 87 _ (0, 0) _ rfl q2 Tryd.underlying87 rfl (by kernel_rfl)) rfl ?_
        exact ⟨ReadIs.not HX.out rfl, but_five B9.out HPQ.out.2.2.2.2.2 _ _ _ _ _⟩
      have u2 : decide ((v2 : Int) < 1) = false := decide_eq_false (by omega)
      have u2' : decide (v2 < 1) = false := decide_eq_false d2
      by_cases d3 : v1 = 2
      · have u3 : ((v1 : Int) == 2) = true := by rw [beq_iff_eq]; omega
        have u3' : ((v1 : Int) != 2) = false := by rw [bne, u3]; rfl
        have HX := Lib.hid (show atP (nats s) i = some (⟨v1, v2, v3, v4⟩, N) by
          rw [HAT.out, RD, if_pos ⟨rfl, by unfold rightPart JournalMath.big; simp only [Bool.and_eq_true, decide_eq_true_eq, Bool.or_eq_true]; exact ⟨⟨⟨⟨⟨⟨by omega, by omega⟩, by omega⟩, by omega⟩, by omega⟩, by omega⟩, .inl d3⟩⟩]
          rfl)
        clear RD m1 m1' m2 m3 m4 d1 d2 d3
        go_wp2_with fail
        have q2 := lies_five R9.out (.int .i64 (v1 : Int)) (.int .i64 (v2 : Int)) (.int .i64 (v3 : Int)) (.string T4) (.int .i64 (N : Int))
        refine bodyPost_ret (results_cell_tmp Tryd.results47 _ _ rb 87 _ (0, 0) _ rfl q2 Tryd.underlying87 rfl (by kernel_rfl)) rfl ?_
        exact ⟨ReadIs.is (p := ⟨v1, v2, v3, v4⟩) HX.out (by rw [← HT4.out]; rfl), but_five B9.out HPQ.out.2.2.2.2.2 _ _ _ _ _⟩
      have u3 : ((v1 : Int) == 2) = false := by rw [beq_eq_false_iff_ne]; omega
      have u3' : ((v1 : Int) != 2) = true := by rw [bne, u3]; rfl
      by_cases d4 : v4 = []
      · have u4 : T4.toList.isEmpty = true := none_list (by rw [HT4.out, d4]; rfl)
        have HX := Lib.hid (show atP (nats s) i = some (⟨v1, v2, v3, v4⟩, N) by
          rw [HAT.out, RD, if_pos ⟨rfl, by unfold rightPart JournalMath.big; simp only [Bool.and_eq_true, decide_eq_true_eq, Bool.or_eq_true]; exact ⟨⟨⟨⟨⟨⟨by omega, by omega⟩, by omega⟩, by omega⟩, by omega⟩, by omega⟩, .inr d4⟩⟩]
          rfl)
        clear RD m1 m1' m2 m3 m4 d1 d2 d3 d4
        go_wp2_with fail
        have q2 := lies_five R9.out (.int .i64 (v1 : Int)) (.int .i64 (v2 : Int)) (.int .i64 (v3 : Int)) (.string T4) (.int .i64 (N : Int))
        refine bodyPost_ret (results_cell_tmp Tryd.results47 _ _ rb 87 _ (0, 0) _ rfl q2 Tryd.underlying87 rfl (by kernel_rfl)) rfl ?_
        exact ⟨ReadIs.is (p := ⟨v1, v2, v3, v4⟩) HX.out (by rw [← HT4.out]; rfl), but_five B9.out HPQ.out.2.2.2.2.2 _ _ _ _ _⟩
      · have u4 : T4.toList.isEmpty = false := some_list (fun h => d4 (by
          have := congrArg ByteArray.size (HT4.out.symm.trans h)
          rw [txt_len] at this
          exact List.length_eq_zero_iff.1 this))
        have HX := Lib.hid (show atP (nats s) i = none by rw [HAT.out, RD, if_neg (fun h => by have := h.2; unfold rightPart at this; simp only [Bool.and_eq_true, decide_eq_true_eq, Bool.or_eq_true] at this; exact this.2.elim d3 d4)]; rfl)
        clear RD m1 m1' m2 m3 m4 d1 d2 d3 d4
        go_wp2_with fail
        have q2 := lies_five R9.out (.int .i64 0) (.int .i64 0) (.int .i64 0) (.string ⟨#[]⟩) (.int .i64 0)
        refine bodyPost_ret (results_cell_tmp Tryd.results47 _ _ rb 87 _ (0, 0) _ rfl q2 Tryd.underlying87 rfl (by kernel_rfl)) rfl ?_
        exact ⟨ReadIs.not HX.out rfl, but_five B9.out HPQ.out.2.2.2.2.2 _ _ _ _ _⟩
end Go.Proofs.YtajkldmpllphjaaDoor
