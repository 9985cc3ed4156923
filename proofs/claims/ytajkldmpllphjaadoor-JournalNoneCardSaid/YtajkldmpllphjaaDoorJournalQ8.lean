/-
  The program's read of chapter 10: what a device tells. The conditions: crc's tables; a device that lies in memory, whose power is on.
-/
import Derived.Test.YtajkldmpllphjaaDoorJournalQ7
import Derived.Test.YtajkldmpllphjaaDoorPart08
namespace Go.Proofs.YtajkldmpllphjaaDoor
open Go.RowKit BlockMath FrameMath TextNat JournalMath

theorem OwnP.keep {w w' : World} {B : Nat} {v : Value} {A : List (Part × Nat)} (h : OwnP w B v A) (hk : ∀ q, v.ownBlock = some q → w'.heap[q]? = w.heap[q]?) : OwnP w' B v A := by
  refine ⟨h.1, ?_⟩
  rcases h.2 with h2 | ⟨g, cap, cur, h3, h4, h5, h6⟩
  · exact .inl h2
  · exact .inr ⟨g, cap, cur, h3, h4, (hk g (by rw [h3]; rfl)).trans h5, h6⟩
theorem OwnP.base {w : World} {B B' : Nat} {v : Value} {A : List (Part × Nat)} (h : OwnP w B v A) (hb : B' ≤ B) : OwnP w B' v A := by
  refine ⟨h.1, ?_⟩
  rcases h.2 with h2 | ⟨g, cap, cur, h3, h4, h5, h6⟩
  · exact .inl h2
  · exact .inr ⟨g, cap, cur, h3, Nat.le_trans hb h4, h5, h6⟩
/-- What reading a part at a place lays into its cells. -/
def readCells (l : List Nat) (i : Nat) : List Value := match atP l i with
  | some (p, n) => ptCells (p, n)
  | none => [.int .i64 0, .int .i64 0, .int .i64 0, .string ⟨#[]⟩, .int .i64 0]
theorem ReadIs.cells {l : List Nat} {i : Nat} {e : Ending} (h : ReadIs l i e) : ∃ k0 k1 k2 k3 k4, readCells l i = [.int .i64 k0, .int .i64 k1, .int .i64 k2, .string k3, .int .i64 k4] ∧ e = .returned (.tuple #[.agg #[.int .i64 k0, .int .i64 k1, .int .i64 k2, .string k3, .int .i64 k4], .bool (atP l i).isSome]) := by
  unfold ReadIs at h
  unfold readCells
  cases hat : atP l i with
  | none =>
    rw [hat] at h
    exact ⟨_, _, _, _, _, rfl, h⟩
  | some q =>
    rw [hat] at h
    exact ⟨_, _, _, _, _, rfl, h⟩
/-- A device's told: its parts, where they end, whether it is corrupt. -/
def ToldOf (w : World) (B : Nat) (l : List Nat) (x : Value) : Prop := ∃ v, x = .agg #[v, .int .i64 (endOf l : Int), .bool (corrupt l)] ∧ OwnP w B v (pairs (partsOf l) 0)
set_option maxRecDepth 100000 in
set_option maxHeartbeats 8000000 in
theorem pdevice_ok (b : Nat) (S : Nat → Prop) (d : Dk) (w : World) (hT : Tables w) (h : dev.at_ w b S d) (ok : Ok d) (ho : d.off = false) :
    Calls Tryd.prog 30 #[ptr b] w fun e w' => (∃ x, e = .returned x ∧ ToldOf w' w.heap.size (nats (all d)) x) ∧ Below w.heap.size w w' := by
  obtain ⟨s, hs⟩ : ∃ s, s = all d := ⟨_, rfl⟩
  obtain ⟨l, hl⟩ : ∃ l, l = nats s := ⟨_, rfl⟩
  have HO := Lib.hid (show Oct l by rw [hl]; exact nats_ok s)
  have HL := Lib.hid (show l.length = s.size by rw [hl, nats_len])
  have HSZ := Lib.hid (show s.size ≤ 1048576 by rw [hs, all_size]; exact ok.all)
  have HR := Lib.hid (fun (i : Nat) (w1 : World) (h : Tables w1) (hi : i ≤ 1048576) => pread_ok s i w1 h (by have := HSZ.out; omega) (by omega))
  have HLo := Lib.hid (fun (i : Nat) (w1 : World) (h : Tables w1) (hi : i ≤ s.size) (he : endOf l = i) (ha : atP l i = none) => plost_ok s i w1 h (by have := HSZ.out; omega) hi (by rw [← hl]; exact he) (by rw [← hl]; exact ha))
  rw [← hl] at HR HLo
  have HT := Lib.hid hT
  have RO := read_on ho
  rw [← hs] at RO ⊢
  rw [← hl]
  have L0 := Lib.hid (Lies.new w [.slice none 0 0, .int .i64 0, .bool false] 61)
  have B1 := (Below.refl w.heap.size w).alloc (Nat.le_refl _) (.cells #[.slice none 0 0, .int .i64 0, .bool false] 61)
  obtain ⟨rb, hrb⟩ : ∃ rb, rb = w.heap.size := ⟨_, rfl⟩
  have HRB := Lib.hid hrb
  obtain ⟨w1, hw1⟩ : ∃ w1, w1 = w.alloc (.cells #[.slice none 0 0, .int .i64 0, .bool false] 61) := ⟨_, rfl⟩
  have HW1 := Lib.hid hw1
  rw [← hw1] at B1
  replace L0 := Lib.hid (show Lies w1 rb [.slice none 0 0, .int .i64 0, .bool false] 61 by rw [hw1, hrb]; exact L0.out)
  have HD1 := Lib.hid (dev.stays h B1.size fun k hk => B1.block k (dev.lt h k hk))
  have HLen := Lib.hid (lenOk b S d w1 HD1.out ok)
  have HRead := Lib.hid (fun w2 (h : dev.at_ w2 b S d) => readOk b S d 0 (size d) w2 h ok (by unfold I64; omega) (by have := ok.all; have h2 := all_size d; unfold I64 size; split <;> omega))
  rw [RO] at HRead
  obtain ⟨z, hz⟩ : ∃ z, z = size d := ⟨_, rfl⟩
  rw [← hz] at HLen HRead
  obtain ⟨n, hn⟩ : ∃ n, n = l.length := ⟨_, rfl⟩
  have HN := Lib.hid hn
  have hn2 : n ≤ 1048576 := by rw [hn, HL.out]; exact HSZ.out
  replace B1 := Lib.hid B1
  clear hT h ok ho RO hs hl hw1 hrb hz hn
  go_enter Tryd.func30, Tryd.ntmps30
  go_wp2_with fail
  rw [← HW1.out, ← HRB.out]
  refine HLen.out.mono ?_
  rintro e w2 ⟨rfl, hb⟩
  have B2 := Lib.hid (B1.out.trans (hb.mono B1.out.size))
  have HD2 := Lib.hid (dev.stays HD1.out hb.size fun k hk => hb.block k (dev.lt HD1.out k hk))
  replace L0 := Lib.hid (L0.out.below hb)
  clear hb
  go_wp2_with fail
  refine (HRead.out w2 HD2.out).mono ?_
  rintro e w3 ⟨⟨x3, rfl, -⟩, hb⟩
  have B3 := Lib.hid (B2.out.trans (hb.mono B2.out.size))
  replace L0 := Lib.hid (L0.out.below hb)
  clear hb HD1 HD2 HLen HRead
  go_wp2_with fail
  have Lt := Lib.hid (Lies.new w3 [.slice none 0 0, .int .i64 0, .bool false] 61)
  have al := (Below.refl w3.heap.size w3).alloc (Nat.le_refl _) (.cells #[.slice none 0 0, .int .i64 0, .bool false] 61)
  obtain ⟨tb, htb⟩ : ∃ tb, tb = w3.heap.size := ⟨_, rfl⟩
  obtain ⟨w4, hw4⟩ : ∃ w4, w4 = w3.alloc (.cells #[.slice none 0 0, .int .i64 0, .bool false] 61) := ⟨_, rfl⟩
  rw [← hw4] at al ⊢
  replace Lt := Lib.hid (show Lies w4 tb [.slice none 0 0, .int .i64 0, .bool false] 61 by rw [hw4, htb]; exact Lt.out)
  have B4 := Lib.hid (B3.out.trans (al.mono B3.out.size))
  have R4 := Lib.hid (L0.out.below al)
  have HTB := Lib.hid (show rb < tb ∧ w.heap.size ≤ tb ∧ tb < w4.heap.size by
    refine ⟨?_, ?_, Lt.out.lt⟩
    · rw [htb]; exact L0.out.lt
    · rw [htb]; exact B3.out.size)
  obtain ⟨BB, hBB⟩ : ∃ BB, BB = w4.heap.size := ⟨_, rfl⟩
  have HBB := Lib.hid hBB
  rw [← htb]
  clear al htb hw4 hBB B3 L0 B2
  refine (HR.out 0 w4 (HT.out.grown B4.out) (by omega)).mono ?_
  rintro e w5 ⟨he, hb⟩
  obtain ⟨a0, a1, a2, a3, a4, hcs, rfl⟩ := he.cells
  have HCS := Lib.hid hcs
  have B5 := Lib.hid (B4.out.trans (hb.mono B4.out.size))
  have T5 := Lib.hid (Lt.out.below hb)
  have R5 := Lib.hid (R4.out.below hb)
  have al := (Below.refl w5.heap.size w5).alloc (Nat.le_refl _) (.cells #[.int .i64 a0, .int .i64 a1, .int .i64 a2, .string a3, .int .i64 a4] 87)
  have S5 := Lib.hid (show BB ≤ w5.heap.size by rw [HBB.out]; exact hb.size)
  have P6 := Lib.hid (show Lies (w5.alloc (.cells #[.int .i64 a0, .int .i64 a1, .int .i64 a2, .string a3, .int .i64 a4] 87)) w5.heap.size (readCells l 0) 87 by rw [hcs]; exact Lies.new w5 [.int .i64 a0, .int .i64 a1, .int .i64 a2, .string a3, .int .i64 a4] _)
  have T6 := Lib.hid (T5.out.below al)
  have R6 := Lib.hid (R5.out.below al)
  have B6 := Lib.hid (B5.out.trans (al.mono B5.out.size))
  clear hb al hcs he Lt R4 T5 R5 B5
  go_wp2_with fail
  go_loopg [6, 7] n (fun gh s6 s7 wx => ∃ (i : Nat) (D : List Part) (v : Value) (qb : Nat), i + gh = n ∧ s6 = ptr qb ∧ s7 = .bool (atP l i).isSome ∧ Reading l i D ∧ Lies wx tb [v, .int .i64 (i : Int), .bool false] 61 ∧ Lies wx qb (readCells l i) 87 ∧
    OwnP wx BB v (pairs D 0) ∧ (∀ q, v.ownBlock = some q → q < qb) ∧ tb < qb ∧ BB ≤ qb ∧ Lies wx rb [.slice none 0 0, .int .i64 0, .bool false] 61 ∧ Below w.heap.size w wx)
  case atStart =>
    exact ⟨0, [], .slice none 0 0, w5.heap.size, by omega, rfl, rfl, Reading.start l, T6.out, P6.out, OwnP.nil _ _, fun q hq => by simp [Value.ownBlock] at hq, by have := HTB.out.2.2; have := S5.out; have := HBB.out; omega, S5.out, R6.out, B6.out⟩
  case round =>
    obtain ⟨i, D, v, qb, hi, rfl, rfl, hread, ht, hq, hown, hlt, htq, hbq, hr, hb⟩ := hrel
    rename World => W
    obtain ⟨pv, nv, cv, rfl⟩ : ∃ p n c, v = .slice p n c := by obtain ⟨p, c, h⟩ := hown.shape; exact ⟨p, _, c, h⟩
    clear P6 T6 R6 B6
    have HI := Lib.hid (show i ≤ n by omega)
    have HI2 := Lib.hid hi
    have HRd := Lib.hid hread
    have Lt := Lib.hid ht
    have Lq := Lib.hid hq
    have HOw := Lib.hid hown
    have HLt := Lib.hid hlt
    have HQ := Lib.hid (And.intro htq hbq)
    have Lr := Lib.hid hr
    have B6 := Lib.hid hb
    cases hat : atP l i with
    | none =>
      obtain ⟨hp, he2⟩ := HRd.out.stop hat
      have HPA := Lib.hid hp
      have HEN := Lib.hid he2
      have HA0 := Lib.hid hat
      have d1 := Lies.cell (i := 1) Lt.out rfl
      rw [show (none : Option (Part × Nat)).isSome = false from rfl]
      clear hi hread ht hq hown hlt htq hbq hr hb hat hp he2
      go_wp2_with fail
      refine (HLo.out i W (HT.out.grown B6.out) (by have := HI.out; have := HN.out; have := HL.out; omega) HEN.out HA0.out).mono ?_
      rintro e w7 ⟨rfl, hb⟩
      have T7 := Lib.hid (Lt.out.below hb)
      have R7 := Lib.hid (Lr.out.below hb)
      have O7 := Lib.hid (HOw.out.below hb)
      have B7 := Lib.hid (B6.out.trans (hb.mono B6.out.size))
      obtain ⟨cc, hcc⟩ : ∃ cc, cc = corrupt l := ⟨_, rfl⟩
      have HCC := Lib.hid hcc
      rw [← hcc]
      have u2 := Lies.cell (i := 2) T7.out rfl
      have f2 := Lies.free T7.out 2
      have T8 := Lib.hid (T7.out.set 2 (.bool cc))
      have R8 := Lib.hid (R7.out.but (But.set tb 2 _ (.bool cc)) (by have := HTB.out.1; omega))
      have v0 := Lies.cell (i := 0) T8.out rfl
      have v1 := Lies.cell (i := 1) T8.out rfl
      have v2 := Lies.cell (i := 2) T8.out rfl
      have x0 := Lies.cell (i := 0) R8.out rfl
      have x1 := Lies.cell (i := 1) R8.out rfl
      have x2 := Lies.cell (i := 2) R8.out rfl
      have y0 := Lies.free R8.out 0
      have y1 := Lies.free R8.out 1
      have y2 := Lies.free R8.out 2
      clear hb hcc
      go_wp2_with fail
      have RF := ((R8.out.set 0 (.slice pv nv cv)).set 1 (.int .i64 (i : Int))).set 2 (.bool cc)
      refine bodyPost_ret (results_cell_row Tryd.results30 _ _ rb 61 _ (0, 0) _ rfl RF Tryd.underlying61 rfl (by kernel_rfl)) rfl ?_
      have h3 : Below w.heap.size w ((((w7.setCell ⟨tb, 2, none⟩ (.bool cc)).setCell ⟨rb, 0, none⟩ (.slice pv nv cv)).setCell ⟨rb, 1, none⟩ (.int .i64 (i : Int))).setCell ⟨rb, 2, none⟩ (.bool cc)) :=
        own_store (own_store (own_store (own_store B7.out HTB.out.2.1) (Nat.le_of_eq HRB.out.symm)) (Nat.le_of_eq HRB.out.symm)) (Nat.le_of_eq HRB.out.symm)
      refine ⟨⟨_, rfl, .slice pv nv cv, by rw [HEN.out, ← HCC.out]; rfl, ?_⟩, h3⟩
      rw [HPA.out]
      refine (O7.out.keep fun q hq => ?_).base (by have := B4.out.size; rw [← HBB.out] at this; exact this)
      have h1 := O7.out.blk q hq
      have h2 := HTB.out
      rw [← HBB.out] at h2
      have e1 := (But.set tb 2 w7 (.bool cc)).block q (O7.out.lt q hq) (by omega)
      have e2 := ((But.set rb 0 (w7.setCell ⟨tb, 2, none⟩ (.bool cc)) (.slice pv nv cv)).trans ((But.set rb 1 _ (.int .i64 (i : Int))).trans (But.set rb 2 _ (.bool cc)))).block q (by simpa using O7.out.lt q hq) (by omega)
      exact e2.trans e1
    | some q =>
      obtain ⟨p, m⟩ := q
      have HM := Lib.hid (show i < m ∧ m ≤ n by
        obtain ⟨_, q2, _, q4, _⟩ := atP_is HO.out hat
        have := seal_len p
        have := HN.out
        omega)
      have HRn := Lib.hid (HRd.out.next HO.out hat)
      have HP := Lib.hid (show pairs D 0 ++ [(p, m)] = pairs (D ++ [p]) 0 by
        obtain ⟨_, q2, _, _, _⟩ := atP_is HO.out hat
        rw [pairs_snoc, Nat.zero_add, ← HRd.out.at_, ← q2])
      have HD := Lib.hid (show (pairs D 0).length ≤ 1000000 by
        rw [pairs_len]
        have := HRd.out.few
        have := HN.out
        omega)
      have Lp := Lib.hid (show Lies W qb (ptCells (p, m)) 87 by
        have := hq
        unfold readCells at this
        rw [hat] at this
        exact this)
      have HAT := Lib.hid hat
      obtain ⟨k1, hk1⟩ : ∃ k1 : Int, k1 = (p.kind : Int) := ⟨_, rfl⟩
      obtain ⟨k2, hk2⟩ : ∃ k2 : Int, k2 = (p.gen : Int) := ⟨_, rfl⟩
      obtain ⟨k3, hk3⟩ : ∃ k3 : Int, k3 = (p.place : Int) := ⟨_, rfl⟩
      obtain ⟨k4, hk4⟩ : ∃ k4, k4 = txt p.text := ⟨_, rfl⟩
      have HC := Lib.hid (show ptCells (p, m) = [.int .i64 k1, .int .i64 k2, .int .i64 k3, .string k4, .int .i64 (m : Int)] by rw [hk1, hk2, hk3, hk4]; rfl)
      have Lq2 := Lp
      rw [HC.out] at Lq2
      have c0 := Lies.cell (i := 0) Lq2.out rfl
      have c1 := Lies.cell (i := 1) Lq2.out rfl
      have c2 := Lies.cell (i := 2) Lq2.out rfl
      have c3 := Lies.cell (i := 3) Lq2.out rfl
      have c4 := Lies.cell (i := 4) Lq2.out rfl
      have d0 := Lies.cell (i := 0) Lt.out rfl
      rw [show (some (p, m) : Option (Part × Nat)).isSome = true from rfl]
      obtain ⟨ob, hob⟩ : ∃ ob : Obj, ob = .cells #[.int .i64 k1, .int .i64 k2, .int .i64 k3, .string k4, .int .i64 (m : Int)] 87 := ⟨_, rfl⟩
      have al := (Below.refl W.heap.size W).alloc (Nat.le_refl _) ob
      have O3 := Lib.hid (HOw.out.below al)
      have B3 := Lib.hid (B6.out.trans (al.mono B6.out.size))
      have NW := Lib.hid (show ∀ (j : Nat) (u : Value), (ptCells (p, m))[j]? = some u → (W.alloc ob).cell? ((⟨W.heap.size, 0, none⟩ : Addr).add j) = some u by
        have := lies_news (Lies.new W (ptCells (p, m)) 87)
        rw [HC.out, ← hob] at this
        rw [HC.out]
        simpa using this)
      have T3 := Lib.hid (Lt.out.below al)
      have Q3 := Lib.hid (Lq2.out.below al)
      have R3 := Lib.hid (Lr.out.below al)
      have HBB3 := Lib.hid (show BB ≤ (W.alloc ob).heap.size by have := HQ.out.2; have := Lq2.out.lt; have := al.size; omega)
      have NT := Lib.hid (show some tb ≠ (Value.slice pv nv cv).ownBlock from fun h => by have := HOw.out.blk tb h.symm; have := HTB.out.2.2; rw [← HBB.out] at this; omega)
      have NQ := Lib.hid (show some qb ≠ (Value.slice pv nv cv).ownBlock from fun h => by have := HLt.out qb h.symm; omega)
      have NR := Lib.hid (show some rb ≠ (Value.slice pv nv cv).ownBlock from fun h => by have := HOw.out.blk rb h.symm; have := HTB.out; rw [← HBB.out] at this; omega)
      have HNE := Lib.hid (show qb ≠ tb by have := HQ.out.1; omega)
      subst hob
      clear hi hread ht hq hown hlt htq hbq hr hb hat hk1 hk2 hk3 hk4 al
      go_wp2_with (at_builtin; refine app_part rfl _ _ rfl BB (.slice pv nv cv) (pairs D 0) (p, m) rfl O3.out ⟨W.heap.size, 0, none⟩ rfl NW.out HD.out HBB3.out ?_; intro v4 w6 o4 b4 g4; obtain ⟨p4, n4, c4', rfl⟩ : ∃ p n c, v4 = .slice p n c := (by obtain ⟨p, c, h⟩ := o4.shape; exact ⟨p, _, c, h⟩); have T4 := Lib.hid (show Lies w6 tb [.slice pv nv cv, .int .i64 (i : Int), .bool false] 61 from (g4.block tb T3.out.lt NT.out).trans T3.out); have Q4 := Lib.hid (show Lies w6 qb [.int .i64 k1, .int .i64 k2, .int .i64 k3, .string k4, .int .i64 (m : Int)] 87 from (g4.block qb Q3.out.lt NQ.out).trans Q3.out); have R4 := Lib.hid (show Lies w6 rb [.slice none 0 0, .int .i64 0, .bool false] 61 from (g4.block rb R3.out.lt NR.out).trans R3.out); have b40 := Lib.hid b4; have o40 := Lib.hid o4; clear b4 o4 g4; have d0' := Lies.cell (i := 0) T4.out rfl; have f0' := Lies.free T4.out 0; have d1' := Lies.cell (i := 1) (T4.out.set 0 (.slice p4 n4 c4')) rfl; have f1' := Lies.free (T4.out.set 0 (.slice p4 n4 c4')) 1; have Q7 := Lib.hid (show Lies (w6.setCell ⟨tb, 0, none⟩ (.slice p4 n4 c4')) qb [.int .i64 k1, .int .i64 k2, .int .i64 k3, .string k4, .int .i64 (m : Int)] 87 from Q4.out.but (But.set tb 0 w6 _) HNE.out); have e4 := Lies.cell (i := 4) Q7.out rfl; have Q8 := Lib.hid (show Lies ((w6.setCell ⟨tb, 0, none⟩ (.slice p4 n4 c4')).setCell ⟨tb, 1, none⟩ (.int .i64 (m : Int))) qb [.int .i64 k1, .int .i64 k2, .int .i64 k3, .string k4, .int .i64 (m : Int)] 87 from Q7.out.but (But.set tb 1 _ _) HNE.out); have g0 := Lies.cell (i := 0) Q8.out rfl; have g1 := Lies.cell (i := 1) Q8.out rfl; have g2 := Lies.cell (i := 2) Q8.out rfl; have g3 := Lies.cell (i := 3) Q8.out rfl; have g4 := Lies.cell (i := 4) Q8.out rfl; have T8 := Lib.hid (show Lies ((w6.setCell ⟨tb, 0, none⟩ (.slice p4 n4 c4')).setCell ⟨tb, 1, none⟩ (.int .i64 (m : Int))) tb [(.slice p4 n4 c4'), .int .i64 (m : Int), .bool false] 61 from ((T4.out.set 0 (.slice p4 n4 c4')).set 1 (.int .i64 (m : Int)))); have T9 := Lib.hid (show Lies (((w6.setCell ⟨tb, 0, none⟩ (.slice p4 n4 c4')).setCell ⟨tb, 1, none⟩ (.int .i64 (m : Int))).alloc (.cells #[.int .i64 k1, .int .i64 k2, .int .i64 k3, .string k4, .int .i64 (m : Int)] 87)) tb [(.slice p4 n4 c4'), .int .i64 (m : Int), .bool false] 61 from T8.out.below ((Below.refl _ _).alloc (Nat.le_refl _) _)); have h1 := Lies.cell (i := 1) T9.out rfl)
      clear d0' f0' d1' f1' e4 g0 g1 g2 g3 g4 h1 c0 c1 c2 c3 c4 d0
      have BT := (((But.set tb 0 w6 (.slice p4 n4 c4')).trans (But.set tb 1 _ (.int .i64 (m : Int)))).alloc (.cells #[.int .i64 k1, .int .i64 k2, .int .i64 k3, .string k4, .int .i64 (m : Int)] 87))
      obtain ⟨qn, hqn⟩ : ∃ qn, qn = w6.heap.size := ⟨_, rfl⟩
      have P9 := Lib.hid (show Lies (((w6.setCell ⟨tb, 0, none⟩ (.slice p4 n4 c4')).setCell ⟨tb, 1, none⟩ (.int .i64 (m : Int))).alloc (.cells #[.int .i64 k1, .int .i64 k2, .int .i64 k3, .string k4, .int .i64 (m : Int)] 87)) qn [.int .i64 k1, .int .i64 k2, .int .i64 k3, .string k4, .int .i64 (m : Int)] 87 by
        have := Lies.new ((w6.setCell ⟨tb, 0, none⟩ (.slice p4 n4 c4')).setCell ⟨tb, 1, none⟩ (.int .i64 (m : Int))) [.int .i64 k1, .int .i64 k2, .int .i64 k3, .string k4, .int .i64 (m : Int)] 87
        rw [hqn]
        simpa using this)
      have R9 := Lib.hid (show Lies (((w6.setCell ⟨tb, 0, none⟩ (.slice p4 n4 c4')).setCell ⟨tb, 1, none⟩ (.int .i64 (m : Int))).alloc (.cells #[.int .i64 k1, .int .i64 k2, .int .i64 k3, .string k4, .int .i64 (m : Int)] 87)) rb [.slice none 0 0, .int .i64 0, .bool false] 61 from R4.out.but BT (by have := HTB.out.1; omega))
      have O9 := Lib.hid (show OwnP (((w6.setCell ⟨tb, 0, none⟩ (.slice p4 n4 c4')).setCell ⟨tb, 1, none⟩ (.int .i64 (m : Int))).alloc (.cells #[.int .i64 k1, .int .i64 k2, .int .i64 k3, .string k4, .int .i64 (m : Int)] 87)) BB (.slice p4 n4 c4') (pairs (D ++ [p]) 0) by
        rw [← HP.out]
        exact o40.out.keep fun q hq => BT.block q (o40.out.lt q hq) (by have := o40.out.blk q hq; have := HTB.out.2.2; rw [← HBB.out] at this; omega))
      have S9 := Lib.hid (show (∀ q, (Value.slice p4 n4 c4').ownBlock = some q → q < qn) ∧ tb < qn ∧ BB ≤ qn by
        rw [hqn]
        exact ⟨o40.out.lt, T4.out.lt, Nat.le_trans HBB3.out b40.out.size⟩)
      have B9 := Lib.hid (show Below w.heap.size w (((w6.setCell ⟨tb, 0, none⟩ (.slice p4 n4 c4')).setCell ⟨tb, 1, none⟩ (.int .i64 (m : Int))).alloc (.cells #[.int .i64 k1, .int .i64 k2, .int .i64 k3, .string k4, .int .i64 (m : Int)] 87)) by
        have h1 := B3.out.trans (b40.out.mono (by have := B4.out.size; rw [← HBB.out] at this; exact this))
        have h2 : Below w.heap.size w ((w6.setCell ⟨tb, 0, none⟩ (.slice p4 n4 c4')).setCell ⟨tb, 1, none⟩ (.int .i64 (m : Int))) := own_store (own_store h1 HTB.out.2.1) HTB.out.2.1
        exact h2.alloc h2.size _)
      obtain ⟨w9, hw9⟩ : ∃ w9, w9 = (((w6.setCell ⟨tb, 0, none⟩ (.slice p4 n4 c4')).setCell ⟨tb, 1, none⟩ (.int .i64 (m : Int))).alloc (.cells #[.int .i64 k1, .int .i64 k2, .int .i64 k3, .string k4, .int .i64 (m : Int)] 87)) := ⟨_, rfl⟩
      rw [← hw9] at T9 P9 R9 O9 B9 ⊢
      rw [← hqn]
      clear hw9 hqn BT T8 Q7 Q8 T4 Q4 R4 o40 b40
      refine (HR.out m w9 (HT.out.grown B9.out) (by have := HM.out; omega)).mono ?_
      rintro e w10 ⟨he, hb⟩
      obtain ⟨z0, z1, z2, z3, z4, hcs, rfl⟩ := he.cells
      have HZ := Lib.hid hcs
      have BZ := Lib.hid hb
      have P10 := Lib.hid (P9.out.below hb)
      have c0 := Lies.cell (i := 0) P10.out rfl
      have c1 := Lies.cell (i := 1) P10.out rfl
      have c2 := Lies.cell (i := 2) P10.out rfl
      have c3 := Lies.cell (i := 3) P10.out rfl
      have c4 := Lies.cell (i := 4) P10.out rfl
      have f0 := Lies.free P10.out 0
      have f1 := Lies.free P10.out 1
      have f2 := Lies.free P10.out 2
      have f3 := Lies.free P10.out 3
      have f4 := Lies.free P10.out 4
      clear he hcs hb
      go_wp2_with fail
      have BN := But.trans (But.trans (But.trans (But.trans (But.set qn 0 w10 (.int .i64 z0)) (But.set qn 1 _ (.int .i64 z1))) (But.set qn 2 _ (.int .i64 z2))) (But.set qn 3 _ (.string z3))) (But.set qn 4 _ (.int .i64 z4))
      have PN := lies_five P10.out (.int .i64 z0) (.int .i64 z1) (.int .i64 z2) (.string z3) (.int .i64 z4)
      have OZ := O9.out.below BZ.out
      go_roundg (n - m)
      case measure => have := HM.out; have := HI2.out; omega
      case rel =>
        refine ⟨m, D ++ [p], _, qn, by have := HM.out; omega, rfl, rfl, HRn.out, (T9.out.below BZ.out).but BN (by have := S9.out.2.1; omega), by rw [HZ.out]; exact PN, OZ.keep fun q hq => BN.block q (OZ.lt q hq) (by have := S9.out.1 q hq; omega), S9.out.1, S9.out.2.1, S9.out.2.2, (R9.out.below BZ.out).but BN (by have := S9.out.2.1; have := HTB.out.1; omega), ?_⟩
        exact but_five (B9.out.trans (BZ.out.mono B9.out.size)) (by have := S9.out.2.1; have := HTB.out.2.1; omega) _ _ _ _ _
end Go.Proofs.YtajkldmpllphjaaDoor
