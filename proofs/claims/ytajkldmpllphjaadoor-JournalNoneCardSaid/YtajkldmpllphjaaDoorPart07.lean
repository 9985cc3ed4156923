/-
  Texts of one claim, merged.
  JournalP1: The program's seal of a part of chapter 10. The conditions: crc's tables; numbers and texts in bounds.
  JournalP3: Rows of parts that a call of chapter 10 makes by append; what a search finds. No program is run here.
  BlockP1: How the program's device of chapter 8 lies in memory, and the contracts of its small functions. No conditions but those typed.
  BlockP2: The contracts of the program's device of chapter 8: New, Room, Fuse, what it is asked, Append. No conditions but those typed.
  BlockP4: The contracts of the program's device of chapter 8: Sync, Cut, Read, Rot. No conditions but those typed.
  BlockProg: The contracts of the program's device of chapter 8: Crash, and what the methods of a nil device answer; with what it imports, all that the laws ask of the program. No conditions but those typed.
  JournalP5: Errors in typed blocks of their own, that stay while devices are written to; devices through several calls. No program is run here but fail.At.
  JournalQ1: Records that lie in memory; the program's tooLong of chapter 10. The conditions: what lies in memory.
  JournalP8: A journal and one of its devices, through several calls. No program is run here.
  JournalQ2: How the program's journal lies in memory; its Gen, Size, ended, refusal, answer. The conditions: what lies in memory.
  JournalQ3: The program's writer of chapter 10: a function that knows a generation and a place. The conditions: what lies in memory.
  BuilderS: The library's own contracts for strings.Builder (Len, WriteString, String) at this program's numbers. No conditions but those typed.
-/
import Derived.Test.YtajkldmpllphjaaDoorPart04
import Derived.Test.YtajkldmpllphjaaDoorPart05
import Derived.Test.YtajkldmpllphjaaDoorFrameP4
import Derived.OwnWalk
import Derived.Laws.OwnMore
import Derived.Test.YtajkldmpllphjaaDoorPart02
import Derived.Lib.AppendStr
import Derived.Test.YtajkldmpllphjaaDoorPart03
import Derived.Shelf.Strings.Builder1
import Derived.Test.YtajkldmpllphjaaDoorProg
namespace Go.Proofs.YtajkldmpllphjaaDoor
open Go.RowKit FrameMath TextNat JournalMath

theorem below_pair (w : World) (a b : Obj) : Below w.heap.size w ((w.alloc a).alloc b) := ((Below.refl _ _).alloc (Nat.le_refl _) _).alloc (by simp) _
theorem wire_new (w : World) : OutAt (w.alloc (.cells #[.pointer none, .int .i64 0, .int .i64 0] 99)) w.heap.size ⟨[], none⟩ := out_new w
set_option maxRecDepth 100000 in
set_option maxHeartbeats 4000000 in
theorem pseal_ok (k g pl : Nat) (t : ByteArray) (bh : Int) (w : World) (hT : Tables w) (hk : k ≤ WireMath.top) (hg : g ≤ WireMath.top) (hp : pl ≤ WireMath.top) (ht : t.size ≤ 6000) :
    Calls Tryd.prog 40 #[.agg #[.int .i64 (k : Int), .int .i64 (g : Int), .int .i64 (pl : Int), .string t, .int .i64 bh]] w fun e w' => e = .returned (.string (txt (sealP ⟨k, g, pl, nats t⟩))) ∧ Below w.heap.size w w' := by
  have HP := Lib.hid (part_puts hk hg hp (t := nats t) (by rw [nats_len]; omega))
  have HL := Lib.hid (show (payload ⟨k, g, pl, nats t⟩).length ≤ 8192 by
    have := payload_len ⟨k, g, pl, nats t⟩
    have h2 : (nats t).length = t.size := nats_len t
    simp only [h2] at this
    omega)
  have HOC := Lib.hid (payload_oct (p := ⟨k, g, pl, nats t⟩) (nats_lt t) hk hg hp (by show (nats t).length ≤ _; rw [nats_len]; omega))
  have HT := Lib.hid hT
  have I := Lib.hid (show ∀ n : Nat, n ≤ WireMath.top → -9223372036854775808 ≤ (n : Int) ∧ (n : Int) ≤ 9223372036854775807 from fun n h => by unfold WireMath.top at h; omega)
  have HK := Lib.hid (I.out k hk)
  have HG := Lib.hid (I.out g hg)
  have HPL := Lib.hid (I.out pl hp)
  clear hk hg hp hT I
  go_enter Tryd.func40, Tryd.ntmps40
  go_wp2_with fail
  obtain ⟨b0, hb0⟩ : ∃ b0, b0 = w.heap.size := ⟨_, rfl⟩
  obtain ⟨pb, hpb⟩ : ∃ pb, pb = w.heap.size + 1 := ⟨_, rfl⟩
  obtain ⟨w1, hw1⟩ : ∃ w1, w1 = (w.alloc (.cells #[.int .i64 (k : Int), .int .i64 (g : Int), .int .i64 (pl : Int), .string t, .int .i64 bh] 87)).alloc (.cells #[.pointer none, .int .i64 0, .int .i64 0] 99) := ⟨_, rfl⟩
  rw [← hw1, ← hpb, ← hb0]
  have O1 := Lib.hid (show OutAt w1 pb ⟨[], none⟩ by rw [hw1, hpb]; exact (by simpa using out_new (w.alloc (.cells #[.int .i64 (k : Int), .int .i64 (g : Int), .int .i64 (pl : Int), .string t, .int .i64 bh] 87))))
  have L1 := Lib.hid (show Lies w1 b0 [.int .i64 (k : Int), .int .i64 (g : Int), .int .i64 (pl : Int), .string t, .int .i64 bh] 87 by rw [hw1, hb0]; exact Lies.below (Lies.new w _ _) ((Below.refl _ _).alloc (Nat.le_refl _) _))
  have HB1 := Lib.hid (show Below w.heap.size w w1 by rw [hw1]; exact below_pair w _ _)
  have HPB := Lib.hid (show w.heap.size ≤ pb ∧ pb ≤ w1.heap.size by rw [hw1, hpb]; simp)
  have HNE := Lib.hid (show b0 ≠ pb by omega)
  have B1 := Lib.hid (But.refl pb w1)
  clear hw1 hpb hb0
  refine (num_ok pb ⟨[], none⟩ (k : Int) w1 O1.out HK.out).mono ?_
  rintro e w2 ⟨rfl, ho, hb⟩
  have O2 := Lib.hid ho
  have B2 := Lib.hid (B1.out.trans hb)
  have L2 := Lib.hid (show Lies w2 b0 [.int .i64 (k : Int), .int .i64 (g : Int), .int .i64 (pl : Int), .string t, .int .i64 bh] 87 from (hb.block b0 (Lies.lt L1.out) HNE.out).trans L1.out)
  have d1 := Lies.cell (i := 1) L2.out rfl
  clear ho hb O1 B1 L1
  go_wp2_with fail
  refine (num_ok pb (WireMath.putN ⟨[], none⟩ [(k : Int)] []) (g : Int) w2 O2.out HG.out).mono ?_
  rintro e w3 ⟨rfl, ho, hb⟩
  have O3 := Lib.hid ho
  have B3 := Lib.hid (B2.out.trans hb)
  have L3 := Lib.hid (show Lies w3 b0 [.int .i64 (k : Int), .int .i64 (g : Int), .int .i64 (pl : Int), .string t, .int .i64 bh] 87 from (hb.block b0 (Lies.lt L2.out) HNE.out).trans L2.out)
  have d2 := Lies.cell (i := 2) L3.out rfl
  clear ho hb O2 B2 L2 d1
  go_wp2_with fail
  refine (num_ok pb (WireMath.putN (WireMath.putN ⟨[], none⟩ [(k : Int)] []) [(g : Int)] []) (pl : Int) w3 O3.out HPL.out).mono ?_
  rintro e w4 ⟨rfl, ho, hb⟩
  have O4 := Lib.hid ho
  have B4 := Lib.hid (B3.out.trans hb)
  have L4 := Lib.hid (show Lies w4 b0 [.int .i64 (k : Int), .int .i64 (g : Int), .int .i64 (pl : Int), .string t, .int .i64 bh] 87 from (hb.block b0 (Lies.lt L3.out) HNE.out).trans L3.out)
  have d3 := Lies.cell (i := 3) L4.out rfl
  clear ho hb O3 B3 L3 d2
  go_wp2_with fail
  refine (text_ok pb (WireMath.putN (WireMath.putN (WireMath.putN ⟨[], none⟩ [(k : Int)] []) [(g : Int)] []) [(pl : Int)] []) t w4 O4.out (by omega)).mono ?_
  rintro e w5 ⟨rfl, ho, hb⟩
  have O5 := Lib.hid ho
  have B5 := Lib.hid (B4.out.trans hb)
  have L5 := Lib.hid (show Lies w5 b0 [.int .i64 (k : Int), .int .i64 (g : Int), .int .i64 (pl : Int), .string t, .int .i64 bh] 87 from (hb.block b0 (Lies.lt L4.out) HNE.out).trans L4.out)
  clear ho hb O4 B4 L4 d3
  go_wp2_with fail
  have HE := Lib.hid (show (WireMath.putN (WireMath.putN (WireMath.putN (WireMath.putN ⟨[], none⟩ [(k : Int)] []) [(g : Int)] []) [(pl : Int)] []) [(t.size : Int)] (nats t)) = ⟨payload ⟨k, g, pl, nats t⟩, none⟩ by rw [show (t.size : Int) = ((nats t).length : Int) by rw [nats_len]]; exact HP.out)
  refine (done_ok pb (WireMath.putN (WireMath.putN (WireMath.putN (WireMath.putN ⟨[], none⟩ [(k : Int)] []) [(g : Int)] []) [(pl : Int)] []) [(t.size : Int)] (nats t)) w5 O5.out).mono ?_
  rintro e w6 ⟨hd, hb⟩
  rw [HE.out] at hd
  unfold DoneIs at hd
  simp only at hd
  subst hd
  have HB6 := Lib.hid (HB1.out.trans ((((B5.out.below HPB.out.2).trans (hb.mono (by have := HPB.out.2; have := B5.out.size; omega))).mono HPB.out.1)))
  obtain ⟨PT, hPT⟩ : ∃ PT, PT = txt (payload ⟨k, g, pl, nats t⟩) := ⟨_, rfl⟩
  have HPT := Lib.hid (show nats PT = payload ⟨k, g, pl, nats t⟩ by rw [hPT]; exact nats_txt _ HOC.out)
  have HPS := Lib.hid (show PT.size ≤ 8192 by rw [hPT, txt_len]; exact HL.out)
  rw [← hPT]
  clear hb O5 B5 L5 hPT HE
  go_wp2_with fail
  refine (sealOk PT w6 (HT.out.grown HB6.out) (by have := HPS.out; omega)).mono ?_
  rintro e w7 ⟨hd, hb⟩
  rw [if_pos HPS.out, HPT.out] at hd
  subst hd
  have HB7 := Lib.hid (HB6.out.trans (hb.mono HB6.out.size))
  clear hb HB6
  go_wp2
  go_ret
  exact ⟨rfl, HB7.out⟩
end Go.Proofs.YtajkldmpllphjaaDoor
namespace JournalMath
open WireMath FrameMath
/-- Parts with the places behind them. -/
def pairs : List Part → Nat → List (Part × Nat)
  | [], _ => []
  | p :: r, i => (p, i + (sealP p).length) :: pairs r (i + (sealP p).length)
theorem pairs_len : ∀ (l : List Part) (i : Nat), (pairs l i).length = l.length
  | [], _ => rfl
  | p :: r, i => by
    show (pairs r _).length + 1 = r.length + 1
    rw [pairs_len r]
theorem pairs_snoc : ∀ (l : List Part) (p : Part) (i : Nat), pairs (l ++ [p]) i = pairs l i ++ [(p, i + (enc l).length + (sealP p).length)]
  | [], p, i => rfl
  | q :: r, p, i => by
    show (q, _) :: pairs (r ++ [p]) _ = (q, _) :: (pairs r _ ++ _)
    rw [pairs_snoc r p]
    show _ = (q, i + (sealP q).length) :: (pairs r _ ++ [(p, i + (sealP q ++ enc r).length + (sealP p).length)])
    rw [List.length_append]
    simp only [Nat.add_assoc]
theorem pairs_at : ∀ {l : List Part} {i k : Nat} {p : Part}, l[k]? = some p → (pairs l i)[k]? = some (p, i + (enc (l.take (k + 1))).length)
  | q :: r, i, 0, p, h => by
    obtain rfl : q = p := by simpa using h
    show some (q, i + (sealP q).length) = _
    simp [enc]
  | q :: r, i, k + 1, p, h => by
    have h2 : r[k]? = some p := by simpa using h
    show (pairs r (i + (sealP q).length))[k]? = _
    rw [pairs_at h2]
    simp only [List.take_succ_cons]
    show _ = some (p, i + (sealP q ++ enc (r.take (k + 1))).length)
    rw [List.length_append, Nat.add_assoc]
end JournalMath
namespace Go.Proofs.YtajkldmpllphjaaDoor
open Go.RowKit FrameMath TextNat JournalMath

theorem info_part : (Tryd.prog.info? 87).map (fun i => (i.zero, i.size, i.bytes)) = some (some (.agg #[.int .i64 0, .int .i64 0, .int .i64 0, .string ⟨#[]⟩, .int .i64 0]), 5, 48) := by kernel_rfl
def ptCells (a : Part × Nat) : List Value := [.int .i64 (a.1.kind : Int), .int .i64 (a.1.gen : Int), .int .i64 (a.1.place : Int), .string (txt a.1.text), .int .i64 (a.2 : Int)]
theorem ptCells_len : ∀ A : List (Part × Nat), (A.flatMap ptCells).length = A.length * 5
  | [] => rfl
  | x :: r => by
    rw [List.flatMap_cons, List.length_append, ptCells_len r, List.length_cons]
    show 5 + _ = _
    omega
theorem ptCells_at {A : List (Part × Nat)} : ∀ {i : Nat} {a : Part × Nat}, A[i]? = some a → ∀ j, j < 5 → (A.flatMap ptCells)[i * 5 + j]? = (ptCells a)[j]? := by
  induction A with
  | nil => intro i a h; simp at h
  | cons y r ih =>
    intro i a h j hj
    have hy : (ptCells y).length = 5 := rfl
    rw [List.flatMap_cons]
    cases i with
    | zero =>
      obtain rfl : y = a := by simpa using h
      rw [List.getElem?_append_left (by omega), Nat.zero_mul, Nat.zero_add]
    | succ i =>
      rw [List.getElem?_append_right (by omega), show (i + 1) * 5 + j - (ptCells y).length = i * 5 + j by omega]
      exact ih (by simpa using h) j hj
/-- A row of one's own that holds these parts. -/
def OwnP (w : World) (B : Nat) (v : Value) (A : List (Part × Nat)) : Prop := w.ownsRow B 87 5 v A.length (A.flatMap ptCells)
theorem OwnP.nil (w : World) (B : Nat) : OwnP w B (.slice none 0 0) [] := World.ownsRow_nil w B _ 5
theorem OwnP.shape {w : World} {B : Nat} {v : Value} {A : List (Part × Nat)} (h : OwnP w B v A) : ∃ p c, v = .slice p A.length c := by
  rcases h.2 with ⟨rfl, h0⟩ | ⟨g, cap, cur, rfl, _⟩
  · exact ⟨none, 0, by rw [h0]⟩
  · exact ⟨_, _, rfl⟩
theorem OwnP.more {w : World} {B : Nat} {v : Value} {A : List (Part × Nat)} {a : Part × Nat} (h : w.ownsRow B 87 5 v (A.length + 1) (A.flatMap ptCells ++ ptCells a)) : OwnP w B v (A ++ [a]) := by
  unfold OwnP
  rw [List.length_append, List.flatMap_append]
  simpa using h
theorem OwnP.below {w w' : World} {B : Nat} {v : Value} {A : List (Part × Nat)} (h : OwnP w B v A) (hb : Below w.heap.size w w') : OwnP w' B v A := by
  refine ⟨h.1, ?_⟩
  rcases h.2 with h2 | ⟨g, cap, cur, h3, h4, h5, h6⟩
  · exact .inl h2
  · exact .inr ⟨g, cap, cur, h3, h4, (hb.block g (Array.getElem?_eq_some_iff.1 h5).1).trans h5, h6⟩
theorem OwnP.blk {w : World} {B : Nat} {v : Value} {A : List (Part × Nat)} (h : OwnP w B v A) : ∀ q, v.ownBlock = some q → B ≤ q := by
  intro q hq
  rcases h.2 with ⟨rfl, _⟩ | ⟨g, cap, cur, rfl, h4, _⟩
  · simp [Value.ownBlock] at hq
  · simp [Value.ownBlock] at hq
    omega
theorem OwnP.lt {w : World} {B : Nat} {v : Value} {A : List (Part × Nat)} (h : OwnP w B v A) : ∀ q, v.ownBlock = some q → q < w.heap.size := by
  intro q hq
  rcases h.2 with ⟨rfl, _⟩ | ⟨g, cap, cur, rfl, h4, h5, _⟩
  · simp [Value.ownBlock] at hq
  · simp [Value.ownBlock] at hq
    subst hq
    exact (Array.getElem?_eq_some_iff.1 h5).1
/-- The parts of a slice. -/
def PartsIn (w : World) (pp : Option Addr) (A : List (Part × Nat)) : Prop := ∀ (i : Nat) (a : Part × Nat), A[i]? = some a → ∃ b off, pp = some ⟨b, off, none⟩ ∧ ∀ j u, (ptCells a)[j]? = some u → w.cell? ⟨b, off + (i * 5 + j), none⟩ = some u
theorem OwnP.parts {w : World} {B : Nat} {p : Option Addr} {n c : Nat} {A : List (Part × Nat)} (h : OwnP w B (.slice p n c) A) : PartsIn w p A := fun i a ha => by
  have hi := (List.getElem?_eq_some_iff.1 ha).1
  rcases h.2 with ⟨_, h2⟩ | ⟨g, cap, cur, h3, h4, h5, h6⟩
  · omega
  · have hv : Value.slice p n c = .slice (some ⟨g, 0, none⟩) A.length cap := h3
    obtain ⟨rfl, rfl, rfl⟩ : p = some ⟨g, 0, none⟩ ∧ n = A.length ∧ c = cap := by simpa using hv
    have h' : w.ownsRow B 87 5 (.slice (some ⟨g, 0, none⟩) A.length c) A.length (A.flatMap ptCells) := h
    refine ⟨g, 0, rfl, fun j u hu => ?_⟩
    have hj : j < 5 := (List.getElem?_eq_some_iff.1 hu).1
    rw [Nat.zero_add, h'.cellAt _ (by omega), ptCells_at ha j hj, hu]
theorem ptCells_one (a : Part × Nat) : ∀ u ∈ ptCells a, u.oneCell' = true := by
  intro u hu
  simp only [ptCells, List.mem_cons, List.not_mem_nil, or_false] at hu
  rcases hu with rfl | rfl | rfl | rfl | rfl <;> rfl
/-- What a search finds. -/
theorem findF_cases (l : List Nat) (k : Nat) : (findF l (k : Int) = -1 ∧ ∀ j, k ≤ j → l[j]? ≠ some 1) ∨ ∃ j : Nat, findF l (k : Int) = (j : Int) ∧ k ≤ j ∧ j < l.length ∧ ∀ i, k ≤ i → i < j → l[i]? ≠ some 1 := by
  cases h : (List.range l.length).find? (fun j : Nat => decide ((k : Int) ≤ (j : Int)) && l[j]? == some 1) with
  | none =>
    refine .inl ⟨by unfold findF; rw [h], fun j hj h1 => ?_⟩
    rw [List.find?_eq_none] at h
    have := h j (List.mem_range.2 (List.getElem?_eq_some_iff.1 h1).1)
    simp [h1] at this
    omega
  | some j =>
    have h2 := h
    rw [List.find?_range_eq_some] at h2
    obtain ⟨h3, h4, h5⟩ := h2
    simp only [Bool.and_eq_true, decide_eq_true_eq] at h3
    refine .inr ⟨j, by unfold findF; rw [h], by omega, List.mem_range.1 h4, fun i hi hj h1 => ?_⟩
    have := h5 i hj
    rw [h1] at this
    simp at this
    omega
end Go.Proofs.YtajkldmpllphjaaDoor
namespace Go.Proofs.YtajkldmpllphjaaDoor
open Go.RowKit BlockMath TextNat

/-- The device's cells, and its bytes' own row. -/
structure Raw (w : World) (b : Nat) (p : Option Addr) (n cap : Nat) (l : List Nat) (sf rm : Int) (dn fu : Bool) (lf : Int) : Prop where
  lies : Lies w b [.slice p n cap, .int .i64 sf, .int .i64 rm, .bool dn, .bool fu, .int .i64 lf] 56
  own : w.ownsRow 0 5 1 (.slice p n cap) n (byteVals l)
  far : p.map (·.block) ≠ some b
/-- In which blocks it lies. -/
def Mine (p : Option Addr) (b k : Nat) : Prop := k = b ∨ p.map (·.block) = some k
/-- What the fuse's two cells say. -/
def Fz (d : Dk) (fu : Bool) (lf : Int) : Prop := I64 lf ∧ (d.off = false → fu = decide (0 ≤ d.fuse) ∧ (0 ≤ d.fuse → lf = d.fuse))
def DevAt (w : World) (b : Nat) (S : Nat → Prop) (d : Dk) : Prop := ∃ p n cap fu lf, Raw w b p n cap (nats (all d)) d.done.size d.room d.off fu lf ∧ Fz d fu lf ∧ ∀ k, S k ↔ Mine p b k
section
variable {w w' : World} {b n cap : Nat} {p : Option Addr} {l : List Nat} {sf rm lf : Int} {dn fu : Bool}
theorem Raw.len (h : Raw w b p n cap l sf rm dn fu lf) : l.length = n := by
  have := h.own.1
  rw [byteVals_len] at this
  omega
theorem own_cases {B : Nat} {e : TypeId} {xs : List Value} (h : w.ownsRow B e 1 (.slice p n cap) n xs) : (p = none ∧ n = 0 ∧ cap = 0) ∨ ∃ g cur, p = some ⟨g, 0, none⟩ ∧ w.heap[g]? = some (.cells cur e (0, 0)) ∧ n ≤ cap := by
  rcases h.2 with ⟨h1, h2⟩ | ⟨g, cap', cur, h1, h2, h3, h4, _⟩
  · simp at h1
    exact .inl ⟨h1.1, h2, h1.2.2⟩
  · simp at h1
    exact .inr ⟨g, cur, h1.1, h3, by omega⟩
theorem own_lt {B : Nat} {e : TypeId} {xs : List Value} (h : w.ownsRow B e 1 (.slice p n cap) n xs) : ∀ k, p.map (·.block) = some k → k < w.heap.size := by
  intro k hk
  rcases own_cases h with ⟨rfl, _⟩ | ⟨g, cur, rfl, hg, _⟩
  · cases hk
  · simp at hk
    subst hk
    exact (Array.getElem?_eq_some_iff.1 hg).1
theorem own_keep {B : Nat} {e : TypeId} {xs : List Value} (h : w.ownsRow B e 1 (.slice p n cap) n xs) (hk : ∀ k, p.map (·.block) = some k → w'.heap[k]? = w.heap[k]?) : w'.ownsRow B e 1 (.slice p n cap) n xs := by
  refine ⟨h.1, ?_⟩
  rcases h.2 with h2 | ⟨g, cap', cur, h1, h2, h3, h4⟩
  · exact .inl h2
  · refine .inr ⟨g, cap', cur, h1, h2, ?_, h4⟩
    simp at h1
    rw [hk g (by rw [h1.1]; rfl)]
    exact h3
theorem Raw.keep (h : Raw w b p n cap l sf rm dn fu lf) (hk : ∀ k, Mine p b k → w'.heap[k]? = w.heap[k]?) : Raw w' b p n cap l sf rm dn fu lf :=
  ⟨(hk b (.inl rfl)).trans h.lies, own_keep h.own fun k hk' => hk k (.inr hk'), h.far⟩
theorem Raw.lt (h : Raw w b p n cap l sf rm dn fu lf) : ∀ k, Mine p b k → k < w.heap.size := by
  intro k hk
  rcases hk with rfl | hk
  · exact h.lies.lt
  · exact own_lt h.own k hk
theorem Raw.below (h : Raw w b p n cap l sf rm dn fu lf) (hb : Below w.heap.size w w') : Raw w' b p n cap l sf rm dn fu lf := h.keep fun k hk => hb.block k (h.lt k hk)
/-- A cell of the struct written. -/
theorem Raw.put (h : Raw w b p n cap l sf rm dn fu lf) {i : Nat} {x : Value} {sf' rm' lf' : Int} {dn' fu' : Bool}
    (e : [Value.slice p n cap, .int .i64 sf, .int .i64 rm, .bool dn, .bool fu, .int .i64 lf].set i x = [.slice p n cap, .int .i64 sf', .int .i64 rm', .bool dn', .bool fu', .int .i64 lf']) :
    Raw (w.setCell ⟨b, i, none⟩ x) b p n cap l sf' rm' dn' fu' lf' := by
  refine ⟨?_, own_keep h.own fun k hk => Below.heap_setCell _ _ _ _ fun e => h.far (by rw [hk, e]), h.far⟩
  have := Lies.set h.lies i x
  rw [e] at this
  exact this
theorem Apart.but {S : Nat → Prop} (hS : S b) (h : But b w w') : Apart S w w' := ⟨h.os, h.tape, h.output, h.size, fun k hk hn => h.block k hk fun e => hn (e ▸ hS)⟩
theorem Apart.trans {S : Nat → Prop} {a c : World} (h : Apart S a w) (k : Apart S w c) : Apart S a c :=
  ⟨k.os.trans h.os, k.tape.trans h.tape, k.output.trans h.output, Nat.le_trans h.size k.size, fun i hi hn => (k.block i (by have := h.size; omega) hn).trans (h.block i hi hn)⟩
theorem Apart.grown {S : Nat → Prop} {row : Option Nat} (h : w.grownBy w' row) (hS : ∀ k, row = some k → S k) : Apart S w w' :=
  ⟨h.os, h.tape, h.output, h.size, fun k hk hn => h.block k hk fun e => hn (hS k e.symm)⟩
end
def dev : Dev where
  at_ := DevAt
  stays := by
    rintro w w' b S d ⟨p, n, cap, fu, lf, h, hf, hS⟩ hs hk
    exact ⟨p, n, cap, fu, lf, h.keep fun k h2 => hk k ((hS k).2 h2), hf, hS⟩
  lt := by
    rintro w b S d ⟨p, n, cap, fu, lf, h, hf, hS⟩ k hk
    exact h.lt k ((hS k).1 hk)
/-- What a call leaves, from the cells. -/
theorem does_of {w w' : World} {b n' cap' : Nat} {p p' : Option Addr} {S : Nat → Prop} {d' : Dk} {l' : List Nat} {sf rm : Int} {dn fu : Bool} {lf : Int} (hS : ∀ k, S k ↔ Mine p b k)
    (h : Raw w' b p' n' cap' l' sf rm dn fu lf) (hl : l' = nats (all d')) (hs : sf = d'.done.size) (hr : rm = d'.room) (ho : dn = d'.off) (hf : Fz d' fu lf)
    (hp : ∀ k, p'.map (·.block) = some k → p.map (·.block) = some k ∨ w.heap.size ≤ k) (ha : Apart S w w') : Does dev w b S d' w' := by
  subst hl hs hr ho
  refine ⟨⟨Mine p' b, ⟨p', n', cap', fu, lf, h, hf, fun k => Iff.rfl⟩, fun k hk => ?_⟩, ha⟩
  rcases hk with rfl | hk
  · exact .inl ((hS k).2 (.inl rfl))
  · rcases hp k hk with h | h
    · exact .inl ((hS k).2 (.inr h))
    · exact .inr h
theorem err_new (w : World) (n c : Int) : ErrNew w.heap.size (w.alloc (.cells #[.string name, .int .i64 n, .iface 33 (.int .i64 c)] 69)) n c (.iface 67 (.pointer (some ⟨w.heap.size, 0, none⟩))) := by
  exact ⟨w.heap.size, Nat.le_refl _, rfl, heap_alloc_new w _⟩
section
variable {w : World} {b n cap : Nat} {p : Option Addr} {l : List Nat} {sf rm lf : Int} {dn fu : Bool}
set_option maxRecDepth 100000 in
theorem downR (h : Raw w b p n cap l sf rm dn fu lf) : Calls Tryd.prog 29 #[ptr b] w fun e w' => e = .returned (.bool dn) ∧ w' = w := by
  have c3 := Lies.cell (i := 3) h.lies rfl
  clear h
  go_enter Tryd.func29, Tryd.ntmps29
  go_wp2
  go_ret
  exact ⟨rfl, rfl⟩
set_option maxRecDepth 100000 in
theorem lenR (h : Raw w b p n cap l sf rm dn fu lf) : Calls Tryd.prog 25 #[ptr b] w fun e w' => e = .returned (.int .i64 (if dn then 0 else (n : Int))) ∧ w' = w := by
  have HD := Lib.hid (downR h)
  have c0 := Lies.cell (i := 0) h.lies rfl
  clear h
  cases dn
  all_goals
    go_enter Tryd.func25, Tryd.ntmps25
    go_wp2_with (go_at_call 29; refine HD.out.mono ?_; rintro e w2 ⟨rfl, rfl⟩)
    go_ret
    exact ⟨rfl, rfl⟩
set_option maxRecDepth 100000 in
theorem safeR (h : Raw w b p n cap l sf rm dn fu lf) : Calls Tryd.prog 36 #[ptr b] w fun e w' => e = .returned (.int .i64 (if dn then 0 else sf)) ∧ w' = w := by
  have HD := Lib.hid (downR h)
  have c1 := Lies.cell (i := 1) h.lies rfl
  clear h
  cases dn
  all_goals
    go_enter Tryd.func36, Tryd.ntmps36
    go_wp2_with (go_at_call 29; refine HD.out.mono ?_; rintro e w2 ⟨rfl, rfl⟩)
    go_ret
    exact ⟨rfl, rfl⟩
set_option maxRecDepth 100000 in
theorem refR (h : Raw w b p n cap l sf rm dn fu lf) (c : Int) : Calls Tryd.prog 45 #[ptr b, .int .i64 c] w fun e w' =>
    (∃ x, e = .returned x ∧ ErrNew w.heap.size w' (if dn then 0 else (n : Int)) c x) ∧ Below w.heap.size w w' := by
  have HL := Lib.hid (lenR h)
  obtain ⟨k, hk⟩ : ∃ k : Int, k = if dn then 0 else (n : Int) := ⟨_, rfl⟩
  rw [← hk] at HL ⊢
  clear hk h
  have HE := Lib.hid (at_some ⟨#[98, 108, 111, 99, 107]⟩ k 33 (.int .i64 c) w)
  have HN := Lib.hid (err_new w k c)
  have HB := Lib.hid (show Below w.heap.size w (w.alloc (.cells #[.string ⟨#[98, 108, 111, 99, 107]⟩, .int .i64 k, .iface 33 (.int .i64 c)] 69)) from (Below.refl _ _).alloc (Nat.le_refl _) _)
  go_enter Tryd.func45, Tryd.ntmps45
  go_wp2_with (first
    | (go_at_call 25; refine HL.out.mono ?_; rintro e w2 ⟨rfl, rfl⟩)
    | (go_at_call 15; refine HE.out.mono ?_; rintro e w2 ⟨rfl, rfl⟩))
  go_ret
  exact ⟨⟨_, rfl, HN.out⟩, HB.out⟩
set_option maxRecDepth 100000 in
/-- What a fuse leaves, where the power is on. -/
theorem blowsR {d : Dk} (h : Raw w b p n cap l sf rm false fu lf) (ho : d.off = false) (hf : Fz d fu lf) (ok : Ok d) : Calls Tryd.prog 55 #[ptr b] w fun e w' =>
    e = .returned (.bool (!doesB d)) ∧ (∃ fu' lf', Raw w' b p n cap l sf rm (doesD d).off fu' lf' ∧ Fz (doesD d) fu' lf') ∧ But b w w' := by
  have H := Lib.hid h
  have HF := Lib.hid hf
  obtain ⟨hf1, hf2⟩ := hf.2 ho
  have ok0 := ok.fuse0
  have ok1 := ok.fuse1
  obtain ⟨x, hx⟩ : ∃ x, x = d.fuse := ⟨_, rfl⟩
  rw [← hx] at hf1 hf2 ok0 ok1
  by_cases h0 : x < 0
  · have HB := Lib.hid (show doesB d = true by unfold doesB; rw [ho, ← hx, decide_eq_false (by omega)]; rfl)
    have HD := Lib.hid (show doesD d = d by unfold doesD; rw [if_neg (by rw [ho]; simp), if_neg (by omega), if_neg (by omega)])
    obtain rfl : fu = false := by rw [hf1, decide_eq_false (by omega)]
    have c4 := Lies.cell (i := 4) h.lies rfl
    rw [HB.out, HD.out]
    clear h hf hf1 hf2 hx h0 ok0 ok1 ok
    go_enter Tryd.func55, Tryd.ntmps55
    go_wp2
    go_ret
    exact ⟨rfl, ⟨_, _, by rw [ho]; exact H.out, HF.out⟩, But.refl _ _⟩
  · obtain rfl : fu = true := by rw [hf1, decide_eq_true (by omega)]
    obtain rfl : lf = x := hf2 (by omega)
    have c4 := Lies.cell (i := 4) h.lies rfl
    have c3 := Lies.cell (i := 3) h.lies rfl
    have c5 := Lies.cell (i := 5) h.lies rfl
    have f3 := Lies.free h.lies 3
    have f5 := Lies.free h.lies 5
    have n1 : IntKind.i64.wrap (lf - 1) = lf - 1 := by rw [IntKind.wrap_i64]; omega
    by_cases h1 : lf = 0
    · have HB := Lib.hid (show doesB d = false by unfold doesB; rw [ho, ← hx, h1]; rfl)
      have HD := Lib.hid (show doesD d = { d with off := true } by unfold doesD; rw [if_neg (by rw [ho]; simp), if_pos (by omega)])
      have HR := Lib.hid (((H.out.put (i := 3) (x := .bool true) (dn' := true) rfl).put (i := 5) (x := .int .i64 (lf - 1)) rfl))
      have HG := Lib.hid (show Fz { d with off := true } true (lf - 1) from ⟨by unfold I64; omega, fun h => by cases h⟩)
      rw [HB.out, HD.out]
      subst h1
      clear h hf hf1 hf2 hx h0 ok0 ok1 ok
      go_enter Tryd.func55, Tryd.ntmps55
      go_wp2
      go_ret
      exact ⟨rfl, ⟨_, _, HR.out, HG.out⟩, (But.set _ _ _ _).trans (But.set _ _ _ _)⟩
    · have t1 : (lf == 0) = false := by rw [beq_eq_false_iff_ne]; exact h1
      have HB := Lib.hid (show doesB d = true by unfold doesB; rw [ho, ← hx, decide_eq_false h1]; rfl)
      have HD := Lib.hid (show doesD d = { d with fuse := lf - 1 } by unfold doesD; rw [if_neg (by rw [ho]; simp), if_neg (by omega), if_pos (by omega), hx])
      have HR := Lib.hid (((H.out.put (i := 3) (x := .bool false) (dn' := false) rfl).put (i := 5) (x := .int .i64 (lf - 1)) rfl))
      have HG := Lib.hid (show Fz { d with fuse := lf - 1 } true (lf - 1) from ⟨by unfold I64; omega, fun _ => ⟨(decide_eq_true (show 0 ≤ lf - 1 by omega)).symm, fun _ => rfl⟩⟩)
      rw [HB.out, HD.out]
      clear h hf hf1 hf2 hx h0 h1 ok0 ok1 ok
      go_enter Tryd.func55, Tryd.ntmps55
      go_wp2
      go_ret
      exact ⟨rfl, ⟨_, _, by show Raw _ _ _ _ _ _ _ _ d.off _ _; rw [ho]; exact HR.out, HG.out⟩, (But.set _ _ _ _).trans (But.set _ _ _ _)⟩
end
end Go.Proofs.YtajkldmpllphjaaDoor
namespace Go.Proofs.YtajkldmpllphjaaDoor
open Go.RowKit BlockMath TextNat

theorem ErrNew.mono {B B' : Nat} {w : World} {n c : Int} {x : Value} (h : ErrNew B w n c x) (hB : B' ≤ B) : ErrNew B' w n c x := by
  obtain ⟨b, h1, h2, h3⟩ := h
  exact ⟨b, Nat.le_trans hB h1, h2, h3⟩
theorem err_none {B : Nat} {w : World} {n : Int} : ErrOf B w 0 n .nilIface := by unfold ErrOf; rw [if_pos rfl]
theorem err_some {B : Nat} {w : World} {n c : Int} {x : Value} (hc : c ≠ 0) (h : ErrNew B w n c x) : ErrOf B w c n x := by unfold ErrOf; rw [if_neg hc]; exact h
theorem strs_nats (s : ByteArray) : Lib.strCells s = byteVals (nats s) := by
  unfold Lib.strCells byteVals nats
  rw [List.map_map]
  rfl
theorem bytes_app (a b : List Nat) : byteVals (a ++ b) = byteVals a ++ byteVals b := by unfold byteVals; rw [List.map_append]
theorem bytes_take (a : List Nat) (n : Nat) : byteVals (a.take n) = (byteVals a).take n := by unfold byteVals; rw [List.map_take]
/-- append of a text's bytes onto a device's row: the row lies where it lay, or in a new block. -/
theorem put_text {ops : Array Oper} {rest : List Oper} {o : Oper} {ac : Act} {Q : Exit → Act → World → Prop} {w : World} (hgd : o.guard = none) (s x : Operand)
    (ho : o.op = .call { callee := .builtin .append, args := #[s, x], argTypes := #[54, 9] })
    (p : Option Addr) (n cap : Nat) (l : List Nat) (hs : ac.eval s = .slice p n cap) (hown : w.ownsRow 0 5 1 (.slice p n cap) n (byteVals l)) (t : ByteArray) (hx : ac.eval x = .string t) (hz : n + t.size ≤ 10000000)
    (h : ∀ p' cap' w', w'.ownsRow 0 5 1 (.slice p' (n + t.size) cap') (n + t.size) (byteVals (l ++ nats t)) → w.grownBy w' (p.map (·.block)) → (∀ k, p'.map (·.block) = some k → p.map (·.block) = some k ∨ w.heap.size ≤ k) →
      wpList Tryd.prog ops Q rest (ac.put o.dst (.slice p' (n + t.size) cap')) w') : wpList Tryd.prog ops Q (o :: rest) ac w := by
  obtain ⟨ib, hib, hb0, hb1, hb2⟩ := info_parts info_byte
  refine wpList_plain hgd fun K hK => ?_
  obtain ⟨v', w', hr, h2, h3, h4⟩ := Lib.run_append_own_string (P := Tryd.prog) w 0 54 9 o.type 5 ib Tryd.underlying54 Tryd.underlying9 hib hb0 hb1 hb2 _ _ _ hown t (by unfold maxLen; omega) (by omega) (Nat.zero_le _)
  obtain ⟨p', cap', rfl⟩ : ∃ p' cap', v' = .slice p' (n + t.size) cap' := by
    obtain ⟨p', cap', e⟩ := (OwnsM.of h2).shape
    exact ⟨p', cap', e⟩
  have hp : ∀ k, p'.map (·.block) = some k → p.map (·.block) = some k ∨ w.heap.size ≤ k := by
    intro k hk
    rcases own_cases hown with ⟨rfl, rfl, rfl⟩ | ⟨g, cur, rfl, hg, hnc⟩
    · by_cases h0 : t.size = 0
      · have := h4.2 ⟨rfl, h0⟩
        simp at this
        rw [this.1] at hk
        cases hk
      · have hr2 := run_append_nil_string (P := Tryd.prog) w 54 9 o.type 5 ib (.int .u8 0) Tryd.underlying54 Tryd.underlying9 hib hb0 t (by omega) (by omega) (by rw [hb2]; omega)
        rw [hr2] at hr
        simp at hr
        rw [← hr.1.1] at hk
        simp at hk
        right
        omega
    · rcases hown.2 with ⟨h1, _⟩ | ⟨g', cap2, cur2, h5, h6, h7, h8, h9, h10, h11⟩
      · simp at h1
      · simp only [Value.slice.injEq, Option.some.injEq, Addr.mk.injEq, and_true, true_and] at h5
        obtain ⟨rfl, rfl⟩ := h5
        by_cases hroom : n + t.size ≤ cap
        · have hr2 := Lib.run_append_room_string (P := Tryd.prog) w 54 9 o.type 5 ib Tryd.underlying54 Tryd.underlying9 hib hb1 g n cap cur2 h7 t hroom (by omega)
          rw [hr2] at hr
          simp at hr
          rw [← hr.1.1] at hk
          exact .inl hk
        · have hr2 := Lib.run_append_grow_string (P := Tryd.prog) w 54 9 o.type 5 ib (.int .u8 0) Tryd.underlying54 Tryd.underlying9 hib hb0 ⟨g, 0, none⟩ n cap (byteVals l) (by rw [hb1]; exact hown.1) (hown.cells (g := g) rfl) t (by omega) (by omega) (by rw [hb2]; exact growslice_fits (by omega) (by omega))
          rw [hr2] at hr
          simp at hr
          rw [← hr.1.1] at hk
          simp at hk
          right
          omega
  unfold Oper.wp execOp
  simp only [ho, resolve, invoke, builtin, Sem.run_bind, Sem.run_pure, Result.andThen_ok, List.map_toArray, List.map_cons, List.map_nil, hs, hx, hr]
  refine hK _ _ (h p' cap' w' ?_ ?_ hp)
  · rw [bytes_app, ← strs_nats]
    exact h2
  · cases p <;> exact h3
theorem own_take {w : World} {p : Option Addr} {n cap m : Nat} {l : List Nat} (h : w.ownsRow 0 5 1 (.slice p n cap) n (byteVals l)) (hm : m ≤ n) : w.ownsRow 0 5 1 (.slice p m cap) m (byteVals (l.take m)) := by
  have hl := h.1
  rw [byteVals_len] at hl
  refine ⟨by rw [byteVals_len, List.length_take]; omega, ?_⟩
  rcases h.2 with ⟨h1, h2⟩ | ⟨g, cap', cur, h1, h2, h3, h4, h5, h6, h7⟩
  · simp at h1
    obtain ⟨rfl, rfl, rfl⟩ := h1
    obtain rfl : m = 0 := by omega
    exact .inl ⟨rfl, rfl⟩
  · simp at h1
    obtain ⟨rfl, rfl⟩ := h1
    refine .inr ⟨g, cap, cur, rfl, h2, h3, by omega, h5, h6, ?_⟩
    rw [bytes_take, ← h7, List.take_take]
    congr 1
    omega
section
variable {w : World} {b : Nat} {S : Nat → Prop} {d : Dk}
theorem all_len {p : Option Addr} {n cap : Nat} {sf rm lf : Int} {dn fu : Bool} (h : Raw w b p n cap (nats (all d)) sf rm dn fu lf) : n = (all d).size := by rw [← h.len, nats_len]
theorem size_is {n : Nat} (h : n = (all d).size) : size d = if d.off then 0 else (n : Int) := by unfold size; rw [h]
end
set_option maxRecDepth 100000 in
theorem downOk : DownOk dev := by
  rintro b S d w ⟨p, n, cap, fu, lf, h, hf, hS⟩ ok
  refine (downR h).mono ?_
  rintro e w' ⟨rfl, rfl⟩
  exact ⟨rfl, Below.refl _ _⟩
theorem lenOk : LenOk dev := by
  rintro b S d w ⟨p, n, cap, fu, lf, h, hf, hS⟩ ok
  refine (lenR h).mono ?_
  rintro e w' ⟨rfl, rfl⟩
  exact ⟨by rw [size_is (all_len h)], Below.refl _ _⟩
theorem safeOk : SafeOk dev := by
  rintro b S d w ⟨p, n, cap, fu, lf, h, hf, hS⟩ ok
  refine (safeR h).mono ?_
  rintro e w' ⟨rfl, rfl⟩
  exact ⟨rfl, Below.refl _ _⟩
theorem does_same {w w' : World} {b : Nat} {S : Nat → Prop} {d : Dk} {p : Option Addr} {n cap : Nat} {fu : Bool} {lf : Int} (h : Raw w b p n cap (nats (all d)) d.done.size d.room d.off fu lf) (hf : Fz d fu lf) (hS : ∀ k, S k ↔ Mine p b k) (hb : Below w.heap.size w w') : Does dev w b S d w' :=
  does_of hS (h.below hb) rfl rfl rfl rfl hf (fun _ hk => .inl hk) (Apart.of hb)
set_option maxRecDepth 100000 in
theorem roomR {w : World} {b m cap : Nat} {p : Option Addr} {l : List Nat} {sf rm lf : Int} {dn fu : Bool} {n : Int} (h : Raw w b p m cap l sf rm dn fu lf) :
    Calls Tryd.prog 28 #[ptr b, .int .i64 n] w fun e w' =>
      (if n < 0 ∨ 1048576 < n then (∃ x, e = .returned x ∧ ErrNew w.heap.size w' (if dn then 0 else (m : Int)) 1 x) ∧ Below w.heap.size w w' else e = .returned .nilIface ∧ Raw w' b p m cap l sf n dn fu lf ∧ But b w w') := by
  have HE := Lib.hid (refR h 1)
  have HR := Lib.hid (h.put (i := 2) (x := .int .i64 n) rfl)
  have c2 := Lies.cell (i := 2) h.lies rfl
  have f2 := Lies.free h.lies 2
  clear h
  obtain ⟨k, hk⟩ : ∃ k : Int, k = if dn then 0 else (m : Int) := ⟨_, rfl⟩
  rw [← hk] at HE ⊢
  clear hk
  cases h1 : decide (n < 0) <;> cases h2 : decide (1048576 < n)
  all_goals
    first
      | (have hr := Lib.hid (show (n < 0 ∨ 1048576 < n) by have := of_decide_eq_true h1; omega))
      | (have hr := Lib.hid (show (n < 0 ∨ 1048576 < n) by have := of_decide_eq_true h2; omega))
      | (have hr := Lib.hid (show ¬ (n < 0 ∨ 1048576 < n) by have := of_decide_eq_false h1; have := of_decide_eq_false h2; omega))
    first
      | simp only [if_neg hr.out]
      | simp only [if_pos hr.out]
    go_enter Tryd.func28, Tryd.ntmps28
    go_wp2_with (go_at_call 45; refine HE.out.mono ?_; rintro e w2 ⟨⟨x, rfl, hx⟩, hb⟩; replace hx := Lib.hid hx; replace hb := Lib.hid hb)
    go_ret
    first
      | exact ⟨rfl, HR.out, But.set _ _ _ _⟩
      | exact ⟨⟨_, rfl, hx.out⟩, hb.out⟩
theorem roomOk : RoomOk dev := by
  rintro b S d n w ⟨p, m, cap, fu, lf, h, hf, hS⟩ ok hn
  refine (roomR (n := n) h).mono ?_
  intro e w' h1
  unfold BlockMath.room
  by_cases hr : n < 0 ∨ 1048576 < n
  · rw [if_pos hr] at h1
    rw [if_pos hr]
    obtain ⟨⟨x, rfl, hx⟩, hb⟩ := h1
    exact ⟨⟨x, rfl, err_some (show (1 : Int) ≠ 0 by decide) (by rw [size_is (all_len h)]; exact hx)⟩, does_same h hf hS hb⟩
  · rw [if_neg hr] at h1
    rw [if_neg hr]
    obtain ⟨rfl, h2, hb⟩ := h1
    exact ⟨⟨_, rfl, err_none⟩, does_of hS h2 rfl rfl rfl rfl ⟨hf.1, hf.2⟩ (fun _ hk => .inl hk) (Apart.but ((hS b).2 (.inl rfl)) hb)⟩
set_option maxRecDepth 100000 in
theorem newOk : NewOk dev := by
  intro r w hr
  have HA := Lib.hid (show Below w.heap.size w (w.alloc (.cells #[.slice none 0 0, .int .i64 0, .int .i64 0, .bool false, .bool false, .int .i64 0] 56)) from (Below.refl _ _).alloc (Nat.le_refl _) _)
  have HL := Lib.hid (show Raw (w.alloc (.cells #[.slice none 0 0, .int .i64 0, .int .i64 0, .bool false, .bool false, .int .i64 0] 56)) w.heap.size none 0 0 [] 0 0 false false 0 from ⟨Lies.new w _ _, World.ownsRow_nil _ _ _ _, by simp⟩)
  have HM := roomR (n := r) HL.out
  by_cases hx : r < 0 ∨ 1048576 < r
  · simp only [if_neg (show ¬ (0 ≤ r ∧ r ≤ 1048576) by omega)]
    simp only [if_pos hx] at HM
    replace HM := Lib.hid HM
    clear hx hr
    go_enter Tryd.func13, Tryd.ntmps13
    go_wp2_with fail
    refine HM.out.mono ?_
    rintro e w2 ⟨⟨x, rfl, hx⟩, hb⟩
    obtain ⟨T, y, rfl⟩ := hx.is.iface
    replace hx := Lib.hid hx
    replace hb := Lib.hid (HA.out.trans (hb.mono HA.out.size))
    clear HL HM
    go_wp2
    go_ret2
    exact ⟨⟨_, rfl, hx.out.is⟩, hb.out⟩
  · simp only [if_pos (show (0 ≤ r ∧ r ≤ 1048576) by omega)]
    simp only [if_neg hx] at HM
    replace HM := Lib.hid HM
    clear hx hr
    go_enter Tryd.func13, Tryd.ntmps13
    go_wp2_with fail
    refine HM.out.mono ?_
    rintro e w2 ⟨rfl, h2, hb⟩
    replace h2 := Lib.hid h2
    replace hb := Lib.hid (HA.out.trans (hb.below (by simp)))
    clear HL HM
    go_wp2
    go_ret2
    refine ⟨⟨_, rfl, Mine none w.heap.size, ⟨none, 0, 0, false, 0, h2.out, ⟨by unfold I64; omega, fun _ => ⟨rfl, fun h => absurd h (by show ¬ (0 : Int) ≤ -1; decide)⟩⟩, fun _ => Iff.rfl⟩, ?_⟩, hb.out⟩
    rintro k (rfl | hk)
    · exact Nat.le_refl _
    · cases hk
end Go.Proofs.YtajkldmpllphjaaDoor
namespace Go.Proofs.YtajkldmpllphjaaDoor
open Go.RowKit BlockMath TextNat

theorem below_drewN {B k : Nat} {w w2 : World} (h : Below B (w.drewN k) w2) : Below B w w2 := ⟨h.os, h.tape, h.output, h.size, h.block⟩
theorem but_drewN {b k : Nat} {w w2 : World} (h : But b (w.drewN k) w2) : But b w w2 := ⟨h.os, h.tape, h.output, h.size, h.block⟩
theorem all_does (d : Dk) : all (doesD d) = all d := by unfold all; rw [doesD_done, doesD_late]
section
variable {w w2 : World} {b n n' cap cap' : Nat} {p p' : Option Addr} {l l' : List Nat} {sf rm lf : Int} {dn fu : Bool}
theorem Raw.drewN (h : Raw w b p n cap l sf rm dn fu lf) (k : Nat) : Raw (w.drewN k) b p n cap l sf rm dn fu lf := ⟨h.lies, h.own, h.far⟩
/-- The row grown and laid into the struct again. -/
theorem Raw.grow (h : Raw w b p n cap l sf rm dn fu lf) (ho : w2.ownsRow 0 5 1 (.slice p' n' cap') n' (byteVals l')) (hg : w.grownBy w2 (p.map (·.block))) (hp : ∀ k, p'.map (·.block) = some k → p.map (·.block) = some k ∨ w.heap.size ≤ k) :
    Lies w2 b [.slice p n cap, .int .i64 sf, .int .i64 rm, .bool dn, .bool fu, .int .i64 lf] 56 ∧
    Raw (w2.setCell ⟨b, 0, none⟩ (.slice p' n' cap')) b p' n' cap' l' sf rm dn fu lf ∧ ∀ S : Nat → Prop, (∀ k, Mine p b k → S k) → Apart S w (w2.setCell ⟨b, 0, none⟩ (.slice p' n' cap')) := by
  have hl : Lies w2 b [.slice p n cap, .int .i64 sf, .int .i64 rm, .bool dn, .bool fu, .int .i64 lf] 56 := (hg.block b h.lies.lt (fun e => h.far e.symm)).trans h.lies
  have hf : p'.map (·.block) ≠ some b := fun e => by
    rcases hp b e with h1 | h1
    · exact h.far h1
    · have := h.lies.lt
      omega
  refine ⟨hl, ⟨hl.set 0 _, own_keep ho fun k hk => Below.heap_setCell _ _ _ _ fun e => hf (by rw [hk, e]), hf⟩, fun S hS => ?_⟩
  exact (Apart.grown hg fun k hk => hS k (.inr hk)).trans (Apart.but (hS b (.inl rfl)) (But.set b 0 _ _))
end
set_option maxRecDepth 100000 in
set_option maxHeartbeats 4000000 in
theorem appendOk : AppendOk dev := by
  rintro b S d s w ⟨p, n, cap, fu, lf, h, hf, hS⟩ ok hs
  have hn := all_len h
  have H := Lib.hid h
  have HF := Lib.hid hf
  have HS := Lib.hid hS
  have HD := Lib.hid (downR h)
  have kA := ok.all
  have kR0 := ok.room0
  have kR1 := ok.room1
  have kn : n ≤ 1048576 := by rw [hn, all_size]; exact kA
  have HE := Lib.hid (fun k c => refR (h.drewN k) c)
  have HZ := Lib.hid (size_is hn)
  cases ho : d.off with
  | true =>
    have HX := Lib.hid (append_off s ho)
    rw [HX.out]
    rw [ho] at HD HE HZ
    clear h hf hS ok hn
    go_enter Tryd.func42, Tryd.ntmps42
    go_wp2_with (first
      | (go_at_call 29; refine HD.out.mono ?_; rintro e w2 ⟨rfl, rfl⟩)
      | (go_at_call 45; refine (HE.out 0 5).mono ?_; rintro e w2 ⟨⟨x, rfl, hx⟩, hb⟩; replace hx := Lib.hid hx; replace hb := Lib.hid hb))
    go_ret
    exact ⟨⟨_, rfl, err_some (show (5 : Int) ≠ 0 by decide) (by rw [HZ.out]; exact hx.out)⟩, does_same H.out HF.out HS.out (below_drewN (k := 0) hb.out)⟩
  | false =>
    rw [ho] at HD HE HZ
    have n1 : IntKind.i64.wrap ((n : Int) + (s.size : Int)) = (n : Int) + (s.size : Int) := by rw [IntKind.wrap_i64]; omega
    have c0 := Lies.cell (i := 0) h.lies rfl
    have c2 := Lies.cell (i := 2) h.lies rfl
    by_cases hfull : d.room < (n : Int) + (s.size : Int)
    · have t1 : decide (d.room < (n : Int) + (s.size : Int)) = true := decide_eq_true hfull
      have HX := Lib.hid (append_full (d := d) (s := s) ho (by rw [← hn]; exact hfull))
      rw [HX.out]
      clear h hf hS ok hn hfull
      go_enter Tryd.func42, Tryd.ntmps42
      go_wp2_with (go_at_call 29; refine HD.out.mono ?_; rintro e w2 ⟨rfl, rfl⟩)
      go_quiet (fail)
      go_wp2_with (go_at_call 45; refine (HE.out _ 4).mono ?_; rintro e w2 ⟨⟨x, rfl, hx⟩, hb⟩; replace hx := Lib.hid hx; replace hb := Lib.hid hb)
      go_ret
      exact ⟨⟨_, rfl, err_some (show (4 : Int) ≠ 0 by decide) (by rw [HZ.out]; exact hx.out)⟩, does_same H.out HF.out HS.out (below_drewN hb.out)⟩
    have t1 : decide (d.room < (n : Int) + (s.size : Int)) = false := decide_eq_false hfull
    have hno : ¬ (d.off = false ∧ d.room - ((all d).size : Int) < (s.size : Int)) := fun k => hfull (by have := k.2; rw [← hn] at this; omega)
    have h' := h
    rw [ho] at h'
    have HBl := Lib.hid (fun k => blowsR (h'.drewN k) ho hf ok)
    cases hd : doesB d with
    | false =>
      have HX := Lib.hid (show append s d = (5, doesD d) by unfold append; rw [if_neg hno, if_neg (by rw [hd]; simp)])
      have HM := Lib.hid (show n = (all (doesD d)).size by rw [all_does]; exact hn)
      have HA := Lib.hid (all_does d)
      rw [HX.out]
      rw [hd] at HBl
      clear h h' hf hS ok hn hfull hno
      go_enter Tryd.func42, Tryd.ntmps42
      go_wp2_with (go_at_call 29; refine HD.out.mono ?_; rintro e w2 ⟨rfl, rfl⟩)
      go_quiet (fail)
      go_wp2_with fail
      refine (HBl.out _).mono ?_
      rintro e w2 ⟨rfl, ⟨fu', lf', hr, hfz⟩, hb⟩
      have HE2 := Lib.hid (refR hr 5)
      replace hb := Lib.hid (but_drewN hb)
      replace hfz := Lib.hid hfz
      replace hr := Lib.hid hr
      have HK := Lib.hid (size_is HM.out)
      obtain ⟨q, hq⟩ : ∃ q, q = size (doesD d) := ⟨_, rfl⟩
      rw [← hq] at HK
      rw [← HK.out] at HE2
      replace hq := Lib.hid hq
      clear c0 c2
      go_wp2_with (go_at_call 45; refine HE2.out.mono ?_; rintro e w3 ⟨⟨x, rfl, hx⟩, hb2⟩; replace hx := Lib.hid hx; replace hb2 := Lib.hid hb2)
      go_ret
      refine ⟨⟨_, rfl, err_some (show (5 : Int) ≠ 0 by decide) (by rw [← hq.out]; exact hx.out.mono hb.out.size)⟩, ?_⟩
      exact does_of HS.out (hr.out.below hb2.out) (by rw [HA.out]) (by rw [doesD_done]) (by rw [doesD_room]) rfl hfz.out (fun _ hk => .inl hk) ((Apart.but ((HS.out b).2 (.inl rfl)) hb.out).trans (Apart.of hb2.out))
    | true =>
      have HX := Lib.hid (show append s d = (0, { doesD d with late := (doesD d).late ++ s }) by unfold append; rw [if_neg hno, if_pos hd])
      have HA := Lib.hid (show all { doesD d with late := (doesD d).late ++ s } = all d ++ s by
        show (doesD d).done ++ ((doesD d).late ++ s) = _
        rw [← ByteArray.append_assoc, doesD_done, doesD_late]
        rfl)
      rw [HX.out]
      rw [hd] at HBl
      clear h h' hf hS ok hn hfull hno
      go_enter Tryd.func42, Tryd.ntmps42
      go_wp2_with (go_at_call 29; refine HD.out.mono ?_; rintro e w2 ⟨rfl, rfl⟩)
      go_quiet (fail)
      go_wp2_with fail
      refine (HBl.out _).mono ?_
      rintro e w2 ⟨rfl, ⟨fu', lf', hr, hfz⟩, hb⟩
      replace hb := Lib.hid (but_drewN hb)
      replace hfz := Lib.hid hfz
      replace hr := Lib.hid hr
      clear c0 c2
      have c0 := Lies.cell (i := 0) hr.out.lies rfl
      go_wp2_with (
        at_builtin
        refine put_text rfl _ _ rfl p n cap (nats (all d)) rfl hr.out.own s rfl (by omega) ?_
        intro p' cap' w3 ho3 hg3 hp3
        obtain ⟨hl3, hr3, ha3⟩ := hr.out.grow ho3 hg3 hp3
        have HR3 := Lib.hid hr3
        have HA3 := Lib.hid (ha3 S fun k hk => (HS.out k).2 hk)
        have HP3 := Lib.hid hp3
        clear c0
        have c0 := Lies.cell (i := 0) hl3 rfl
        have f0 := Lies.free hl3 0
        clear hl3 hr3 ha3 ho3 hg3 hp3)
      go_ret
      refine ⟨⟨_, rfl, err_none⟩, ?_⟩
      exact does_of HS.out HR3.out (by rw [HA.out, nats_append]) (by show _ = (((doesD d).done.size : Nat) : Int); rw [doesD_done]) (by show _ = (doesD d).room; rw [doesD_room]) rfl ⟨hfz.out.1, hfz.out.2⟩ (fun k hk => (HP3.out k hk).imp id fun h => Nat.le_trans hb.out.size h) ((Apart.but ((HS.out b).2 (.inl rfl)) hb.out).trans HA3.out)
end Go.Proofs.YtajkldmpllphjaaDoor
namespace Go.Proofs.YtajkldmpllphjaaDoor
open Go.RowKit BlockMath TextNat

theorem all_done (d : Dk) : all { d with done := all d, late := ByteArray.empty } = all d := by
  show all d ++ ByteArray.empty = all d
  exact ba_end _
theorem cutD_nats {d : Dk} {m : Nat} : nats (all (cutD m d)) = (nats (all d)).take m := by
  unfold cutD
  split
  · rename_i h
    show nats (d.done.extract 0 m ++ ByteArray.empty) = (nats (d.done ++ d.late)).take m
    rw [ba_end, nats_extract, nats_append, List.take_append_of_le_length (by rw [nats_len]; exact h)]
  · rename_i h
    show nats (d.done ++ d.late.extract 0 (m - d.done.size)) = (nats (d.done ++ d.late)).take m
    rw [nats_append, nats_extract, nats_append, List.take_append, nats_len, List.take_of_length_le (l := nats d.done) (by rw [nats_len]; omega)]
theorem cutD_done {d : Dk} {m : Nat} : (cutD m d).done.size = min d.done.size m := by
  unfold cutD
  split
  · show (d.done.extract 0 m).size = _
    rw [ByteArray.size_extract]
    omega
  · show d.done.size = _
    omega
theorem cutD_rest (d : Dk) (m : Nat) : (cutD m d).room = d.room ∧ (cutD m d).off = d.off ∧ (cutD m d).fuse = d.fuse := by unfold cutD; split <;> exact ⟨rfl, rfl, rfl⟩
theorem Fz.of {d d' : Dk} {fu : Bool} {lf : Int} (h : Fz d fu lf) (ho : d'.off = d.off) (hf : d'.fuse = d.fuse) : Fz d' fu lf := ⟨h.1, by rw [ho, hf]; exact h.2⟩
set_option maxRecDepth 100000 in
set_option maxHeartbeats 4000000 in
theorem syncOk : SyncOk dev := by
  rintro b S d w ⟨p, n, cap, fu, lf, h, hf, hS⟩ ok
  have hn := all_len h
  have H := Lib.hid h
  have HF := Lib.hid hf
  have HS := Lib.hid hS
  have HD := Lib.hid (downR h)
  have HE := Lib.hid (refR h 5)
  have HZ := Lib.hid (size_is hn)
  have HA := Lib.hid (all_does d)
  cases ho : d.off with
  | true =>
    have HX := Lib.hid (sync_off ho)
    rw [HX.out]
    rw [ho] at HD HE HZ
    clear h hf hS ok hn
    go_enter Tryd.func56, Tryd.ntmps56
    go_wp2_with (first
      | (go_at_call 29; refine HD.out.mono ?_; rintro e w2 ⟨rfl, rfl⟩)
      | (go_at_call 45; refine HE.out.mono ?_; rintro e w2 ⟨⟨x, rfl, hx⟩, hb⟩; replace hx := Lib.hid hx; replace hb := Lib.hid hb))
    go_ret
    exact ⟨⟨_, rfl, err_some (show (5 : Int) ≠ 0 by decide) (by rw [HZ.out]; exact hx.out)⟩, does_same H.out HF.out HS.out hb.out⟩
  | false =>
    rw [ho] at HD
    have h' := h
    rw [ho] at h'
    have HBl := Lib.hid (blowsR h' ho hf ok)
    cases hd : doesB d with
    | false =>
      have HX := Lib.hid (show sync d = (5, doesD d) by unfold sync; rw [if_neg (by rw [hd]; simp)])
      have HM := Lib.hid (show n = (all (doesD d)).size by rw [all_does]; exact hn)
      rw [HX.out]
      rw [hd] at HBl
      clear h h' hf hS ok hn
      go_enter Tryd.func56, Tryd.ntmps56
      go_wp2_with (go_at_call 29; refine HD.out.mono ?_; rintro e w2 ⟨rfl, rfl⟩)
      refine HBl.out.mono ?_
      rintro e w2 ⟨rfl, ⟨fu', lf', hr, hfz⟩, hb⟩
      have HE2 := Lib.hid (refR hr 5)
      replace hb := Lib.hid hb
      replace hfz := Lib.hid hfz
      replace hr := Lib.hid hr
      have HK := Lib.hid (size_is HM.out)
      obtain ⟨q, hq⟩ : ∃ q, q = size (doesD d) := ⟨_, rfl⟩
      rw [← hq] at HK
      rw [← HK.out] at HE2
      replace hq := Lib.hid hq
      go_wp2_with (go_at_call 45; refine HE2.out.mono ?_; rintro e w3 ⟨⟨x, rfl, hx⟩, hb2⟩; replace hx := Lib.hid hx; replace hb2 := Lib.hid hb2)
      go_ret
      refine ⟨⟨_, rfl, err_some (show (5 : Int) ≠ 0 by decide) (by rw [← hq.out]; exact hx.out.mono hb.out.size)⟩, ?_⟩
      exact does_of HS.out (hr.out.below hb2.out) (by rw [HA.out]) (by rw [doesD_done]) (by rw [doesD_room]) rfl hfz.out (fun _ hk => .inl hk) ((Apart.but ((HS.out b).2 (.inl rfl)) hb.out).trans (Apart.of hb2.out))
    | true =>
      have HX := Lib.hid (show sync d = (0, { doesD d with done := all (doesD d), late := ByteArray.empty }) by unfold sync; rw [if_pos hd])
      have HM := Lib.hid hn
      rw [HX.out]
      rw [hd] at HBl
      clear h h' hf hS ok hn
      go_enter Tryd.func56, Tryd.ntmps56
      go_wp2_with (go_at_call 29; refine HD.out.mono ?_; rintro e w2 ⟨rfl, rfl⟩)
      refine HBl.out.mono ?_
      rintro e w2 ⟨rfl, ⟨fu', lf', hr, hfz⟩, hb⟩
      replace hb := Lib.hid hb
      replace hfz := Lib.hid hfz
      have HR := Lib.hid (hr.put (i := 1) (x := .int .i64 (n : Int)) rfl)
      have c0 := Lies.cell (i := 0) hr.lies rfl
      have c1 := Lies.cell (i := 1) hr.lies rfl
      have f1 := Lies.free hr.lies 1
      clear hr
      go_wp2
      go_ret
      refine ⟨⟨_, rfl, err_none⟩, ?_⟩
      exact does_of HS.out HR.out (by rw [all_done, HA.out]) (by show _ = (((all (doesD d)).size : Nat) : Int); rw [HA.out, HM.out]) (by show _ = (doesD d).room; rw [doesD_room]) rfl (hfz.out.of rfl rfl) (fun _ hk => .inl hk) ((Apart.but ((HS.out b).2 (.inl rfl)) hb.out).trans (Apart.but ((HS.out b).2 (.inl rfl)) (But.set b 1 _ _)))
theorem Raw.cut {w : World} {b n cap : Nat} {p : Option Addr} {l : List Nat} {sf rm lf : Int} {dn fu : Bool} (h : Raw w b p n cap l sf rm dn fu lf) {m : Nat} (hm : m ≤ n) (k : Int) :
    Raw ((w.setCell ⟨b, 0, none⟩ (.slice p m cap)).setCell ⟨b, 1, none⟩ (.int .i64 k)) b p m cap (l.take m) k rm dn fu lf := by
  have h1 : Raw (w.setCell ⟨b, 0, none⟩ (.slice p m cap)) b p m cap (l.take m) sf rm dn fu lf :=
    ⟨h.lies.set 0 _, own_keep (own_take h.own hm) fun k hk => Below.heap_setCell _ _ _ _ fun e => h.far (by rw [hk, e]), h.far⟩
  exact h1.put (i := 1) (x := .int .i64 k) rfl
theorem pcut_wrong {d : Dk} {n : Int} (ho : d.off = false) (h : n < 0 ∨ ((all d).size : Int) < n) : cut n d = (1, d) := by
  unfold cut
  rw [if_pos ⟨ho, h⟩]
theorem pcut_yes {d : Dk} {n : Int} (h : ¬ (n < 0 ∨ ((all d).size : Int) < n)) (hd : doesB d = true) : cut n d = (0, cutD n.toNat (doesD d)) := by
  unfold cut
  rw [if_neg (fun k => h k.2), if_pos hd]
theorem pcut_no {d : Dk} {n : Int} (h : ¬ (n < 0 ∨ ((all d).size : Int) < n)) (hd : doesB d = false) : cut n d = (5, doesD d) := by
  unfold cut
  rw [if_neg (fun k => h k.2), if_neg (by rw [hd]; simp)]
set_option maxRecDepth 100000 in
set_option maxHeartbeats 4000000 in
theorem cutOk : CutOk dev := by
  rintro b S d z w ⟨p, n, cap, fu, lf, h, hf, hS⟩ ok hz
  have hn := all_len h
  have H := Lib.hid h
  have HF := Lib.hid hf
  have HS := Lib.hid hS
  have HD := Lib.hid (downR h)
  have HE := Lib.hid (fun c => refR h c)
  have HZ := Lib.hid (size_is hn)
  have HA := Lib.hid (all_does d)
  cases ho : d.off with
  | true =>
    have HX := Lib.hid (cut_off z ho)
    rw [HX.out]
    rw [ho] at HD HE HZ
    clear h hf hS ok hn
    go_enter Tryd.func44, Tryd.ntmps44
    go_wp2_with (first
      | (go_at_call 29; refine HD.out.mono ?_; rintro e w2 ⟨rfl, rfl⟩)
      | (go_at_call 45; refine (HE.out 5).mono ?_; rintro e w2 ⟨⟨x, rfl, hx⟩, hb⟩; replace hx := Lib.hid hx; replace hb := Lib.hid hb))
    go_ret
    exact ⟨⟨_, rfl, err_some (show (5 : Int) ≠ 0 by decide) (by rw [HZ.out]; exact hx.out)⟩, does_same H.out HF.out HS.out hb.out⟩
  | false =>
    rw [ho] at HD HE HZ
    have c0 := Lies.cell (i := 0) h.lies rfl
    by_cases hw : z < 0 ∨ (n : Int) < z
    · have HX := Lib.hid (pcut_wrong (d := d) (n := z) ho (by rw [← hn]; exact hw))
      rw [HX.out]
      clear h hf hS ok hn
      by_cases h0 : z < 0
      · have t0 : decide (z < 0) = true := decide_eq_true h0
        clear h0 hw
        go_enter Tryd.func44, Tryd.ntmps44
        go_wp2_with (first
          | (go_at_call 29; refine HD.out.mono ?_; rintro e w2 ⟨rfl, rfl⟩)
          | (go_at_call 45; refine (HE.out 1).mono ?_; rintro e w2 ⟨⟨x, rfl, hx⟩, hb⟩; replace hx := Lib.hid hx; replace hb := Lib.hid hb))
        go_ret
        exact ⟨⟨_, rfl, err_some (show (1 : Int) ≠ 0 by decide) (by rw [HZ.out]; exact hx.out)⟩, does_same H.out HF.out HS.out hb.out⟩
      · have t0 : decide (z < 0) = false := decide_eq_false h0
        have t1 : decide ((n : Int) < z) = true := decide_eq_true (by omega)
        clear h0 hw
        go_enter Tryd.func44, Tryd.ntmps44
        go_wp2_with (first
          | (go_at_call 29; refine HD.out.mono ?_; rintro e w2 ⟨rfl, rfl⟩)
          | (go_at_call 45; refine (HE.out 1).mono ?_; rintro e w2 ⟨⟨x, rfl, hx⟩, hb⟩; replace hx := Lib.hid hx; replace hb := Lib.hid hb))
        go_ret
        exact ⟨⟨_, rfl, err_some (show (1 : Int) ≠ 0 by decide) (by rw [HZ.out]; exact hx.out)⟩, does_same H.out HF.out HS.out hb.out⟩
    obtain ⟨m, rfl⟩ : ∃ m : Nat, z = (m : Int) := ⟨z.toNat, by omega⟩
    have hmn : m ≤ n := by omega
    have hw' : ¬ ((m : Int) < 0 ∨ ((all d).size : Int) < (m : Int)) := by rw [← hn]; exact hw
    have t0 : decide ((m : Int) < 0) = false := decide_eq_false (by omega)
    have t1 : decide ((n : Int) < (m : Int)) = false := decide_eq_false (by omega)
    have t1' : decide (n < m) = false := decide_eq_false (by omega)
    have h' := h
    rw [ho] at h'
    have HBl := Lib.hid (blowsR h' ho hf ok)
    cases hd : doesB d with
    | false =>
      have HX := Lib.hid (pcut_no hw' hd)
      have HM := Lib.hid (show n = (all (doesD d)).size by rw [all_does]; exact hn)
      rw [HX.out]
      rw [hd] at HBl
      clear h h' hf hS ok hn hw hw'
      go_enter Tryd.func44, Tryd.ntmps44
      go_wp2_with (go_at_call 29; refine HD.out.mono ?_; rintro e w2 ⟨rfl, rfl⟩)
      refine HBl.out.mono ?_
      rintro e w2 ⟨rfl, ⟨fu', lf', hr, hfz⟩, hb⟩
      have HE2 := Lib.hid (refR hr 5)
      replace hb := Lib.hid hb
      replace hfz := Lib.hid hfz
      replace hr := Lib.hid hr
      have HK := Lib.hid (size_is HM.out)
      obtain ⟨q, hq⟩ : ∃ q, q = size (doesD d) := ⟨_, rfl⟩
      rw [← hq] at HK
      rw [← HK.out] at HE2
      replace hq := Lib.hid hq
      clear c0
      go_wp2_with (go_at_call 45; refine HE2.out.mono ?_; rintro e w3 ⟨⟨x, rfl, hx⟩, hb2⟩; replace hx := Lib.hid hx; replace hb2 := Lib.hid hb2)
      go_ret
      refine ⟨⟨_, rfl, err_some (show (5 : Int) ≠ 0 by decide) (by rw [← hq.out]; exact hx.out.mono hb.out.size)⟩, ?_⟩
      exact does_of HS.out (hr.out.below hb2.out) (by rw [HA.out]) (by rw [doesD_done]) (by rw [doesD_room]) rfl hfz.out (fun _ hk => .inl hk) ((Apart.but ((HS.out b).2 (.inl rfl)) hb.out).trans (Apart.of hb2.out))
    | true =>
      have HX := Lib.hid (pcut_yes hw' hd)
      rw [HX.out]
      rw [hd] at HBl
      clear h' hf hS ok hn hw hw'
      have hcs := own_cases h.own
      clear h
      rcases hcs with ⟨rfl, rfl, rfl⟩ | ⟨g, cur, rfl, -, hc⟩
      · obtain rfl : m = 0 := by omega
        go_enter Tryd.func44, Tryd.ntmps44
        go_wp2_with (go_at_call 29; refine HD.out.mono ?_; rintro e w2 ⟨rfl, rfl⟩)
        refine HBl.out.mono ?_
        rintro e w2 ⟨rfl, ⟨fu', lf', hr, hfz⟩, hb⟩
        replace hb := Lib.hid hb
        replace hfz := Lib.hid hfz
        clear c0
        have c0 := Lies.cell (i := 0) hr.lies rfl
        have c1 := Lies.cell (i := 1) hr.lies rfl
        have f0 := Lies.free hr.lies 0
        have f1 := Lies.free hr.lies 1
        replace hr := Lib.hid hr
        go_wp2
        all_goals
          go_ret
          refine ⟨⟨_, rfl, err_none⟩, ?_⟩
          exact does_of HS.out (hr.out.cut hmn _) (by rw [cutD_nats, all_does] <;> rfl) (by rw [cutD_done, doesD_done]; omega) (by rw [(cutD_rest _ _).1, doesD_room]) (by rw [(cutD_rest _ _).2.1]) (hfz.out.of (cutD_rest _ _).2.1 (cutD_rest _ _).2.2) (fun _ hk => .inl hk) ((Apart.but ((HS.out b).2 (.inl rfl)) hb.out).trans (Apart.but ((HS.out b).2 (.inl rfl)) ((But.set b 0 _ _).trans (But.set b 1 _ _))))
      · go_enter Tryd.func44, Tryd.ntmps44
        go_wp2_with (go_at_call 29; refine HD.out.mono ?_; rintro e w2 ⟨rfl, rfl⟩)
        refine HBl.out.mono ?_
        rintro e w2 ⟨rfl, ⟨fu', lf', hr, hfz⟩, hb⟩
        replace hb := Lib.hid hb
        replace hfz := Lib.hid hfz
        clear c0
        have c0 := Lies.cell (i := 0) hr.lies rfl
        have c1 := Lies.cell (i := 1) hr.lies rfl
        have f0 := Lies.free hr.lies 0
        have f1 := Lies.free hr.lies 1
        replace hr := Lib.hid hr
        go_wp2
        all_goals
          go_ret
          refine ⟨⟨_, rfl, err_none⟩, ?_⟩
          exact does_of HS.out (hr.out.cut hmn _) (by rw [cutD_nats, all_does] <;> rfl) (by rw [cutD_done, doesD_done]; omega) (by rw [(cutD_rest _ _).1, doesD_room]) (by rw [(cutD_rest _ _).2.1]) (hfz.out.of (cutD_rest _ _).2.1 (cutD_rest _ _).2.2) (fun _ hk => .inl hk) ((Apart.but ((HS.out b).2 (.inl rfl)) hb.out).trans (Apart.but ((HS.out b).2 (.inl rfl)) ((But.set b 0 _ _).trans (But.set b 1 _ _))))
end Go.Proofs.YtajkldmpllphjaaDoor
namespace Go.Proofs.YtajkldmpllphjaaDoor
open Go.RowKit BlockMath TextNat

theorem pread_wrong {d : Dk} {a b : Int} (ho : d.off = false) (h : a < 0 ∨ b < a ∨ ((all d).size : Int) < b) : read a b d = (ByteArray.empty, 1) := by
  unfold BlockMath.read
  rw [if_neg (by rw [ho]; simp), if_pos h]
theorem pread_right {d : Dk} {a b : Nat} (ho : d.off = false) (h1 : a ≤ b) (h2 : b ≤ (all d).size) : read a b d = ((all d).extract a b, 0) := by
  unfold BlockMath.read
  rw [if_neg (by rw [ho]; simp), if_neg (by omega)]
  rfl
theorem nats_part (s : ByteArray) (a m : Nat) : nats (s.extract a m) = ((nats s).drop a).take (m - a) := by
  unfold nats
  rw [ByteArray.data_extract, Array.toList_extract, List.extract_eq_take_drop, List.map_take, List.map_drop]
/-- Bytes in memory from a place on, as a text. -/
theorem text_part (w : World) (g a k cap : Nat) (s : ByteArray) (hs : s.size = k) (hc : ∀ j z : Nat, (nats s)[j]? = some z → w.cell? ⟨g, a + j, none⟩ = some (.int .u8 (z : Int))) :
    (convert 54 9 (.slice (some ⟨g, a, none⟩) k cap)).run Tryd.prog w = .ok (.string s) w := by
  have h := run_convert_bytes_back (P := Tryd.prog) w 54 9 5 ⟨g, a, none⟩ cap s.data.toList Tryd.underlying54 Tryd.underlying5 Tryd.underlying9 (fun j hj => by
    rw [WideShapes.add_plain]
    refine hc j _ ?_
    unfold nats
    rw [List.getElem?_map, List.getElem?_eq_getElem hj]
    rfl)
  rw [show s.data.toList.length = k from by rw [← hs]; exact Array.length_toList] at h
  exact h
theorem text_none (w : World) (cap : Nat) : (convert 54 9 (.slice none 0 cap)).run Tryd.prog w = .ok (.string ByteArray.empty) w := by
  rw [run_convert_bytes_string w 54 9 5 none 0 cap Tryd.underlying54 Tryd.underlying5 Tryd.underlying9]
  simp [Conv.bytesToString]
set_option maxRecDepth 100000 in
set_option maxHeartbeats 4000000 in
theorem readOk : ReadOk dev := by
  rintro b S d y z w ⟨p, n, cap, fu, lf, h, hf, hS⟩ ok hy hz
  have hn := all_len h
  have HD := Lib.hid (downR h)
  have HE := Lib.hid (fun c => refR h c)
  have HZ := Lib.hid (size_is hn)
  have c0 := Lies.cell (i := 0) h.lies rfl
  cases ho : d.off with
  | true =>
    have HX := Lib.hid (read_off y z ho)
    rw [HX.out]
    rw [ho] at HD HE HZ
    clear h hf hS ok hn
    go_enter Tryd.func46, Tryd.ntmps46
    go_wp2_with (first
      | (go_at_call 29; refine HD.out.mono ?_; rintro e w2 ⟨rfl, rfl⟩)
      | (go_at_call 45; refine (HE.out 5).mono ?_; rintro e w2 ⟨⟨x, rfl, hx⟩, hb⟩; replace hx := Lib.hid hx; replace hb := Lib.hid hb))
    go_ret2
    exact ⟨⟨_, rfl, err_some (show (5 : Int) ≠ 0 by decide) (by rw [HZ.out]; exact hx.out)⟩, hb.out⟩
  | false =>
    rw [ho] at HD HE HZ
    by_cases hw : y < 0 ∨ z < y ∨ (n : Int) < z
    · have HX := Lib.hid (pread_wrong (d := d) (a := y) (b := z) ho (by rw [← hn]; exact hw))
      rw [HX.out]
      clear h hf hS ok hn
      cases t0 : decide (y < 0) <;> cases t1 : decide (z < y) <;> cases t2 : decide ((n : Int) < z)
      · exact absurd hw (by have := of_decide_eq_false t0; have := of_decide_eq_false t1; have := of_decide_eq_false t2; omega)
      all_goals
        clear hw
        go_enter Tryd.func46, Tryd.ntmps46
        go_wp2_with (first
          | (go_at_call 29; refine HD.out.mono ?_; rintro e w2 ⟨rfl, rfl⟩)
          | (go_at_call 45; refine (HE.out 1).mono ?_; rintro e w2 ⟨⟨x, rfl, hx⟩, hb⟩; replace hx := Lib.hid hx; replace hb := Lib.hid hb))
        go_ret2
        exact ⟨⟨_, rfl, err_some (show (1 : Int) ≠ 0 by decide) (by rw [HZ.out]; exact hx.out)⟩, hb.out⟩
    obtain ⟨a, rfl⟩ : ∃ a : Nat, y = (a : Int) := ⟨y.toNat, by omega⟩
    obtain ⟨m, rfl⟩ : ∃ m : Nat, z = (m : Int) := ⟨z.toNat, by omega⟩
    have ham : a ≤ m := by omega
    have hmn : m ≤ n := by omega
    have HX := Lib.hid (pread_right ho ham (by rw [← hn]; exact hmn))
    have t0 : decide ((a : Int) < 0) = false := decide_eq_false (by omega)
    have t1 : decide ((m : Int) < (a : Int)) = false := decide_eq_false (by omega)
    have t1' : decide (m < a) = false := decide_eq_false (by omega)
    have t2 : decide ((n : Int) < (m : Int)) = false := decide_eq_false (by omega)
    have t2' : decide (n < m) = false := decide_eq_false (by omega)
    rw [HX.out]
    have hex : ((all d).extract a m).size = m - a := by rw [ByteArray.size_extract, ← hn]; omega
    obtain ⟨R, hR⟩ : ∃ R, R = (all d).extract a m := ⟨_, rfl⟩
    rw [← hR] at hex ⊢
    have hown := h.own
    replace hn := Lib.hid hn
    rcases own_cases h.own with ⟨rfl, rfl, rfl⟩ | ⟨g, cur, rfl, -, hc⟩
    · obtain rfl : m = 0 := by omega
      obtain rfl : a = 0 := by omega
      have he : R = ByteArray.empty := ba_ext (Array.eq_empty_of_size_eq_zero hex)
      have kw := text_none w 0
      rw [he]
      clear h hf hS ok hw hown hR hex he
      go_enter Tryd.func46, Tryd.ntmps46
      go_wp2_with (go_at_call 29; refine HD.out.mono ?_; rintro e w2 ⟨rfl, rfl⟩)
      go_ret2
      exact ⟨⟨_, rfl, err_none⟩, Below.refl _ _⟩
    · by_cases hca : cap = a
      · have e0 : m - a = 0 := by omega
        have e1 : cap - a = 0 := by omega
        have kw := text_part w g 0 0 0 R (by omega) (fun j z hz => by
          have := (List.getElem?_eq_some_iff.1 hz).1
          rw [nats_len] at this
          omega)
        clear h hf hS ok hw hown hR hex
        go_enter Tryd.func46, Tryd.ntmps46
        go_wp2_with (go_at_call 29; refine HD.out.mono ?_; rintro e w2 ⟨rfl, rfl⟩)
        go_ret2
        exact ⟨⟨_, rfl, err_none⟩, Below.refl _ _⟩
      · have kw := text_part w g a (m - a) (cap - a) R hex (fun j z hz => by
          rw [hR, nats_part] at hz
          rw [List.getElem?_take] at hz
          split at hz
          · rename_i hj
            rw [List.getElem?_drop] at hz
            rw [hown.cellAt (a + j) (by omega), byteVals_at, hz]
            rfl
          · cases hz)
        clear h hf hS ok hw hown hR hex
        go_enter Tryd.func46, Tryd.ntmps46
        go_wp2_with (go_at_call 29; refine HD.out.mono ?_; rintro e w2 ⟨rfl, rfl⟩)
        go_ret2
        exact ⟨⟨_, rfl, err_none⟩, Below.refl _ _⟩
theorem prot_byte (a b : Nat) (ha : a < 256) (hb : b < 256) : bits .xor .u8 (a : Int) (b : Int) = (((a ^^^ b) % 256 : Nat) : Int) := by
  have hx : a ^^^ b < 2 ^ 8 := Nat.xor_lt_two_pow (by omega) (by omega)
  show IntKind.u8.wrap ((BitVec.ofInt 8 (a : Int) ^^^ BitVec.ofInt 8 (b : Int)).toNat : Int) = _
  have h1 : (BitVec.ofInt 8 (a : Int)).toNat = a := by rw [BitVec.ofInt_natCast, BitVec.toNat_ofNat]; exact Nat.mod_eq_of_lt (by omega)
  have h2 : (BitVec.ofInt 8 (b : Int)).toNat = b := by rw [BitVec.ofInt_natCast, BitVec.toNat_ofNat]; exact Nat.mod_eq_of_lt (by omega)
  rw [BitVec.toNat_xor, h1, h2, IntKind.wrap_u8]
  omega
theorem prot_no {d : Dk} {n : Int} {c : Nat} (h : rotB n c d = false) : rotD n c d = d := by
  unfold rotD
  rw [if_neg (by rw [h]; simp)]
/-- A cell of the row written. -/
theorem Raw.byte {w : World} {b g n cap : Nat} {l : List Nat} {sf rm lf : Int} {dn fu : Bool} (h : Raw w b (some ⟨g, 0, none⟩) n cap l sf rm dn fu lf) (j z : Nat) :
    Raw (w.setCell ⟨g, j, none⟩ (.int .u8 (z : Int))) b (some ⟨g, 0, none⟩) n cap (l.set j z) sf rm dn fu lf := by
  refine ⟨?_, ?_, h.far⟩
  · exact (Below.heap_setCell _ _ _ _ fun e => h.far (by rw [e]; rfl)).trans h.lies
  · rw [← byteVals_set]
    exact (h.own.stored j _).1
theorem rot_nats {d : Dk} {m x c : Nat} (hb : rotB (m : Int) c d = true) (hx : (nats d.done)[m]? = some x) : nats (all (rotD (m : Int) c d)) = (nats (all d)).set m ((x ^^^ c) % 256) := by
  have hm : m < d.done.size := by rw [← nats_len]; exact (List.getElem?_eq_some_iff.1 hx).1
  unfold rotD
  rw [if_pos hb, show (m : Int).toNat = m by omega, hx]
  show nats (d.done.extract 0 m ++ txt [((x ^^^ c) % 256)] ++ d.done.extract (m + 1) d.done.size ++ d.late) = (nats (d.done ++ d.late)).set m _
  rw [nats_append, nats_append, nats_append, nats_extract, nats_part, nats_txt _ (by simp; omega), nats_append, List.set_append_left _ _ (by rw [nats_len]; exact hm), List.set_eq_take_append_cons_drop, if_pos (by rw [nats_len]; exact hm)]
  congr 1
  rw [List.append_assoc]
  congr 1
  show _ :: List.take _ _ = _
  rw [List.take_of_length_le (by rw [List.length_drop, nats_len]; omega)]
theorem rot_rest (d : Dk) (n : Int) (c : Nat) : (rotD n c d).room = d.room ∧ (rotD n c d).off = d.off ∧ (rotD n c d).fuse = d.fuse := by unfold rotD; split <;> exact ⟨rfl, rfl, rfl⟩
end Go.Proofs.YtajkldmpllphjaaDoor
namespace Go.Proofs.YtajkldmpllphjaaDoor
open Go.RowKit BlockMath TextNat

theorem prest (k m : Int) (hm : 0 < m) : (k.tmod m + m).tmod m = k % m ∧ -m ≤ k.tmod m ∧ k.tmod m < m := by
  have h0 := Int.emod_nonneg k (show m ≠ 0 by omega)
  have h1 := Int.emod_lt_of_pos k hm
  have h2 := Int.tmod_eq_emod (a := k) (b := m)
  have hab : (m.natAbs : Int) = m := by omega
  have h3 : 0 ≤ k.tmod m + m ∧ (k.tmod m = k % m ∨ k.tmod m = k % m - m) := by
    split at h2
    · rw [h2]
      omega
    · rw [h2, hab]
      omega
  refine ⟨?_, by omega, by omega⟩
  rw [Int.tmod_eq_emod_of_nonneg h3.1, Int.add_emod_right]
  rcases h3.2 with h | h <;> rw [h]
  · exact Int.emod_emod_of_dvd _ (Int.dvd_refl m)
  · rw [Int.sub_emod_right, Int.emod_emod_of_dvd _ (Int.dvd_refl m)]
set_option maxRecDepth 100000 in
theorem restR (k m : Int) (w : World) (hm : 0 < m) (hm2 : m ≤ 2000000) : Calls Tryd.prog 26 #[.int .i64 k, .int .i64 m] w fun e w' => e = .returned (.int .i64 (k % m)) ∧ w' = w := by
  obtain ⟨h1, h2, h3⟩ := prest k m hm
  obtain ⟨q, hq⟩ : ∃ q, q = k.tmod m := ⟨_, rfl⟩
  rw [← hq] at h1 h2 h3
  have hr0 := Int.emod_nonneg k (show m ≠ 0 by omega)
  have hr1 := Int.emod_lt_of_pos k hm
  obtain ⟨r, hr⟩ : ∃ r, r = k % m := ⟨_, rfl⟩
  rw [← hr] at h1 hr0 hr1 ⊢
  have hq1 := hq.symm
  have z0 : (m == 0) = false := by rw [beq_eq_false_iff_ne]; omega
  have n1 : IntKind.i64.wrap q = q := by rw [IntKind.wrap_i64]; omega
  have n2 : IntKind.i64.wrap (q + m) = q + m := by rw [IntKind.wrap_i64]; omega
  have n3 : IntKind.i64.wrap r = r := by rw [IntKind.wrap_i64]; omega
  clear hq hr
  go_enter Tryd.func26, Tryd.ntmps26
  go_wp2
  go_ret
  exact ⟨rfl, rfl⟩
/-- Does a mask spare a place? -/
def sparesB (mask : ByteArray) (i : Nat) : Bool := decide (mask.size = 0) || decide ((nats mask)[i % mask.size]?.getD 0 % 2 = 1)
theorem left_spares (mask : ByteArray) (i c : Nat) : left mask i c = if sparesB mask i then c else 0 := by
  unfold left sparesB
  by_cases h : mask.size = 0
  · rw [if_pos h, decide_eq_true h]
    rfl
  · rw [if_neg h, decide_eq_false h, Bool.false_or]
    by_cases h2 : (nats mask)[i % mask.size]?.getD 0 % 2 = 0
    · rw [if_pos h2, decide_eq_false (by omega)]
      rfl
    · rw [if_neg h2, decide_eq_true (by omega)]
      rfl
set_option maxRecDepth 100000 in
theorem sparesR (mask : ByteArray) (i : Nat) (w : World) (hi : i ≤ 2000000) (hs : mask.size ≤ 1000000) : Calls Tryd.prog 27 #[.string mask, .int .i64 (i : Int)] w fun e w' => e = .returned (.bool (sparesB mask i)) ∧ w' = w := by
  by_cases hm : mask.size = 0
  · have he : mask = ⟨#[]⟩ := ba_ext (Array.eq_empty_of_size_eq_zero hm)
    subst he
    have hb : sparesB ⟨#[]⟩ i = true := rfl
    rw [hb]
    clear hb hm
    go_enter Tryd.func27, Tryd.ntmps27
    go_wp2
    go_ret
    exact ⟨rfl, rfl⟩
  · have he : ¬ mask = ⟨#[]⟩ := fun h => hm (by rw [h]; rfl)
    have kl := some_list he
    have z2 : ((mask.size : Int) == 0) = false := by rw [beq_eq_false_iff_ne]; omega
    have hpm : i % mask.size < mask.size := Nat.mod_lt _ (by omega)
    have hb : sparesB mask i = (((mask[i % mask.size]'hpm).toNat : Int) % 2 == 1) := by
      unfold sparesB
      rw [decide_eq_false hm, nats_at mask _ hpm, Bool.false_or, Bool.eq_iff_iff]
      simp
      omega
    rw [hb]
    clear he hb hm
    go_enter Tryd.func27, Tryd.ntmps27
    go_wp2
    go_ret
    exact ⟨rfl, rfl⟩
end Go.Proofs.YtajkldmpllphjaaDoor
namespace Go.Proofs.YtajkldmpllphjaaDoor
open Go.RowKit BlockMath TextNat

/-- What lies in the row while Crash goes through what stays. -/
def stage (A T L : List Nat) (i : Nat) : List Nat := A ++ (T.take i ++ L.drop i)
theorem stage_step {A T L : List Nat} {i x c : Nat} (hT : T[i]? = some x) (hL : L[i]? = some c) : stage A T L (i + 1) = (stage A T L i).set (A.length + i) x := by
  have hi : i < T.length := (List.getElem?_eq_some_iff.1 hT).1
  have hd : L.drop i = c :: L.drop (i + 1) := by
    have h1 := (List.getElem?_eq_some_iff.1 hL)
    obtain ⟨h2, h3⟩ := h1
    rw [← h3]
    exact List.drop_eq_getElem_cons h2
  have ht : T.take (i + 1) = T.take i ++ [x] := by rw [List.take_add_one, hT]; rfl
  have hl : (T.take i).length = i := by rw [List.length_take]; omega
  unfold stage
  rw [List.set_append_right _ _ (by omega), show A.length + i - A.length = i by omega, List.set_append_right _ _ (by omega), hl, Nat.sub_self, hd, ht, List.append_assoc]
  rfl
theorem stage_same {A T L : List Nat} {i x : Nat} (hT : T[i]? = some x) (hL : L[i]? = some x) : stage A T L (i + 1) = stage A T L i := by
  rw [stage_step hT hL]
  apply List.ext_getElem?
  intro j
  by_cases hj : A.length + i = j
  · subst hj
    have hi : i < T.length := (List.getElem?_eq_some_iff.1 hT).1
    have hi2 : i < L.length := (List.getElem?_eq_some_iff.1 hL).1
    have hl : (T.take i).length = i := by rw [List.length_take]; omega
    unfold stage
    rw [List.getElem?_set_self (by simp; omega), List.getElem?_append_right (by omega), show A.length + i - A.length = i by omega, List.getElem?_append_right (by omega), hl, Nat.sub_self, List.getElem?_drop, Nat.add_zero, hL]
  · rw [List.getElem?_set_ne hj]
theorem stage_zero (A T L : List Nat) : stage A T L 0 = A ++ L := rfl
theorem stage_end {A T L : List Nat} (h : L.length = T.length) : stage A T L T.length = A ++ T := by
  unfold stage
  rw [List.take_length, ← h, List.drop_length, List.append_nil]
theorem Raw.cut0 {w : World} {b n cap : Nat} {p : Option Addr} {l : List Nat} {sf rm lf : Int} {dn fu : Bool} (h : Raw w b p n cap l sf rm dn fu lf) {m : Nat} (hm : m ≤ n) :
    Raw (w.setCell ⟨b, 0, none⟩ (.slice p m cap)) b p m cap (l.take m) sf rm dn fu lf :=
  ⟨h.lies.set 0 _, own_keep (own_take h.own hm) fun k hk => Below.heap_setCell _ _ _ _ fun e => h.far (by rw [hk, e]), h.far⟩
theorem Raw.drew {w : World} {b n cap : Nat} {p : Option Addr} {l : List Nat} {sf rm lf : Int} {dn fu : Bool} (h : Raw w b p n cap l sf rm dn fu lf) : Raw w.drew b p n cap l sf rm dn fu lf := ⟨h.lies, h.own, h.far⟩
theorem Apart.drew {S : Nat → Prop} {w w' : World} (h : Apart S w w') : Apart S w w'.drew := ⟨h.os, h.tape, h.output, h.size, h.block⟩
set_option maxRecDepth 100000 in
set_option maxHeartbeats 4000000 in
theorem crashOk : CrashOk dev := by
  rintro b S d k mask w ⟨p, nn, cap, fu, lf, h, hf, hS⟩ ok hk hmask
  have hn := all_len h
  have kA := ok.all
  obtain ⟨ds, hds⟩ : ∃ ds, ds = d.done.size := ⟨_, rfl⟩
  obtain ⟨ls, hls⟩ : ∃ ls, ls = d.late.size := ⟨_, rfl⟩
  obtain ⟨n, hnn⟩ : ∃ n, n = stays k d := ⟨_, rfl⟩
  have hnl : n ≤ ls := by rw [hnn, hls]; exact stays_le k d
  have hns : k % ((ls : Int) + 1) = (n : Int) := by
    rw [hnn, hls]
    unfold stays
    have := Int.emod_nonneg k (show (d.late.size : Int) + 1 ≠ 0 by omega)
    omega
  rw [all_size, ← hds, ← hls] at hn
  rw [← hds, ← hls] at kA
  obtain ⟨T, hT⟩ : ∃ T, T = kept d.late mask n := ⟨_, rfl⟩
  obtain ⟨L, hL⟩ : ∃ L, L = (nats d.late).take n := ⟨_, rfl⟩
  have hTn : T.length = n := by rw [hT]; exact kept_len _ mask (by omega)
  have hLn : L.length = n := by rw [hL, List.length_take, nats_len]; omega
  have HTL := Lib.hid (show ∀ i : Nat, i < n → ∃ c, L[i]? = some c ∧ T[i]? = some (if sparesB mask i then c else 0) by
    intro i hi
    obtain ⟨c, hc⟩ : ∃ c, L[i]? = some c := ⟨_, List.getElem?_eq_getElem (by omega)⟩
    refine ⟨c, hc, ?_⟩
    rw [hL, List.getElem?_take, if_pos hi] at hc
    rw [hT, ← left_spares]
    exact kept_at hi hc)
  have HX := Lib.hid (show nats (all (crash k mask d)) = stage (nats d.done) T L n by
    rw [← hTn, stage_end (by omega)]
    show nats (d.done ++ txt (kept d.late mask (stays k d)) ++ ByteArray.empty) = _
    rw [← hnn, ← hT, ba_end, nats_append, nats_txt _ (by rw [hT]; exact kept_lt _ mask n)])
  have HY := Lib.hid (show (crash k mask d).done.size = ds + n by
    show (d.done ++ txt (kept d.late mask (stays k d))).size = _
    rw [← hnn, ← hT, ByteArray.size_append, txt_len, hTn, hds])
  obtain ⟨m, hm⟩ : ∃ m, m = ds + n := ⟨_, rfl⟩
  have hmn : m ≤ nn := by omega
  have H0 := h
  rw [← hds] at H0
  have HS0 := Lib.hid (show (nats (all d)).take m = stage (nats d.done) T L 0 by
    rw [stage_zero]
    show (nats (d.done ++ d.late)).take m = _
    rw [nats_append, List.take_append, nats_len, ← hds, List.take_of_length_le (by rw [nats_len]; omega), hL, show m - ds = n by omega])
  have HF := Lib.hid hf
  have HS := Lib.hid hS
  have H := Lib.hid H0
  have HA := Lib.hid (show (nats d.done).length = ds by rw [nats_len, hds])
  have HR := Lib.hid (fun wx : World => (restR k ((ls : Int) + 1) wx (by omega) (by omega)).mono (R' := fun e w' => e = .returned (.int .i64 (n : Int)) ∧ ∃ n, w' = wx.drewN n) (by rintro e w' ⟨rfl, rfl⟩; exact ⟨by rw [hns], 0, rfl⟩))
  have n1 : IntKind.i64.wrap ((nn : Int) - (ds : Int)) = (ls : Int) := by rw [IntKind.wrap_i64]; omega
  have n2 : IntKind.i64.wrap ((ls : Int) + 1) = (ls : Int) + 1 := by rw [IntKind.wrap_i64]; omega
  have n3 : IntKind.i64.wrap ((ds : Int) + (n : Int)) = (m : Int) := by rw [IntKind.wrap_i64]; omega
  have c0 := Lies.cell (i := 0) H0.lies rfl
  have c1 := Lies.cell (i := 1) H0.lies rfl
  have hcs := own_cases h.own
  have kn2 : n ≤ 1048576 := by omega
  have kds : ds + n ≤ 1048576 := by omega
  have HM := Lib.hid hm
  rw [← hm] at HY
  clear h H0 hf hS hn hds hls hnn hns hT hL hTn hLn hm
  rcases hcs with ⟨rfl, hz1, hz2⟩ | ⟨g, cur, rfl, -, hc⟩
  · have hc : nn ≤ cap := by omega
    have HZ0 := Lib.hid (show n = 0 by have := HM.out; omega)
    clear hz1 hz2
    go_enter Tryd.func12, Tryd.ntmps12
    go_wp2_with fail
    go_quiet (first | (go_at_call 26; exact Calls.quiet_of (HR.out _)))
    obtain ⟨w1, hw1⟩ : ∃ w1, w1 = w.drewN nq := ⟨_, rfl⟩
    rw [← hw1]
    have H1 := Lib.hid (show Raw w1 b none nn cap (nats (all d)) ds d.room d.off fu lf by rw [hw1]; exact H.out.drewN nq)
    have HB1 := Lib.hid (show Apart S w w1 by rw [hw1]; exact ⟨rfl, rfl, rfl, Nat.le_refl _, fun _ _ _ => rfl⟩)
    clear hw1 c0 c1
    have c0 := Lies.cell (i := 0) H1.out.lies rfl
    have c1 := Lies.cell (i := 1) H1.out.lies rfl
    have f0 := Lies.free H1.out.lies 0
    go_wp2_with fail
    go_region
    have HR2 := Lib.hid (show Raw (w1.setCell ⟨b, 0, none⟩ (.slice none m cap)).drew b none m cap (stage (nats d.done) T L 0) ds d.room d.off fu lf by
      have := H1.out.cut0 hmn
      rw [HS0.out] at this
      exact this.drew)
    have HB2 := Lib.hid (show Apart S w (w1.setCell ⟨b, 0, none⟩ (.slice none m cap)).drew from (HB1.out.trans (Apart.but ((HS.out b).2 (.inl rfl)) (But.set b 0 _ _))).drew)
    clear c0 c1 f0 H1 HB1
    generalize (w1.setCell ⟨b, 0, none⟩ (.slice none m cap)).drew = w2 at HR2 HB2 ⊢
    go_wp2_with fail
    go_loopg [38] n (fun gh s38 wx => ∃ i : Nat, i + gh = n ∧ s38 = .int .i64 (i : Int) ∧ Raw wx b none m cap (stage (nats d.done) T L i) ds d.room d.off fu lf ∧ Apart S w wx)
    case atStart => exact ⟨0, by omega, by go_num, HR2.out, HB2.out⟩
    case round =>
      obtain ⟨i, hi, rfl, hr, hb⟩ := hrel
      have HI := Lib.hid hr
      have HB := Lib.hid hb
      have c0 := Lies.cell (i := 0) hr.lies rfl
      have c1 := Lies.cell (i := 1) hr.lies rfl
      clear HR2 HB2 hr hb
      by_cases hin : i < n
      · exact absurd hin (by have := HZ0.out; omega)
      · obtain rfl : i = n := by omega
        have t1 : decide ((i : Int) < (i : Int)) = false := decide_eq_false (by omega)
        have t1' : decide (i < i) = false := decide_eq_false (by omega)
        have c3 := Lies.cell (i := 3) HI.out.lies rfl
        have c4 := Lies.cell (i := 4) HI.out.lies rfl
        have f1 := Lies.free HI.out.lies 1
        have f3 := Lies.free HI.out.lies 3
        have f4 := Lies.free HI.out.lies 4
        have HG := Lib.hid (((HI.out.put (i := 1) (x := .int .i64 (m : Int)) rfl).put (i := 3) (x := .bool false) (dn' := false) rfl).put (i := 4) (x := .bool false) (fu' := false) rfl)
        have HBB := Lib.hid (HB.out.trans (Apart.but ((HS.out b).2 (.inl rfl)) (((But.set b 1 _ (.int .i64 (m : Int))).trans (But.set b 3 _ (.bool false))).trans (But.set b 4 _ (.bool false)))))
        go_wp2
        go_end0
        exact ⟨rfl, does_of HS.out HG.out HX.out.symm (by rw [HY.out]) rfl rfl ⟨HF.out.1, fun _ => ⟨rfl, fun h => absurd h (by show ¬ (0 : Int) ≤ -1; decide)⟩⟩ (fun _ hk => .inl hk) HBB.out⟩
  · go_enter Tryd.func12, Tryd.ntmps12
    go_wp2_with fail
    go_quiet (first | (go_at_call 26; exact Calls.quiet_of (HR.out _)))
    obtain ⟨w1, hw1⟩ : ∃ w1, w1 = w.drewN nq := ⟨_, rfl⟩
    rw [← hw1]
    have H1 := Lib.hid (show Raw w1 b (some ⟨g, 0, none⟩) nn cap (nats (all d)) ds d.room d.off fu lf by rw [hw1]; exact H.out.drewN nq)
    have HB1 := Lib.hid (show Apart S w w1 by rw [hw1]; exact ⟨rfl, rfl, rfl, Nat.le_refl _, fun _ _ _ => rfl⟩)
    clear hw1 c0 c1
    have c0 := Lies.cell (i := 0) H1.out.lies rfl
    have c1 := Lies.cell (i := 1) H1.out.lies rfl
    have f0 := Lies.free H1.out.lies 0
    go_wp2_with fail
    go_region
    have HR2 := Lib.hid (show Raw (w1.setCell ⟨b, 0, none⟩ (.slice (some ⟨g, 0, none⟩) m cap)).drew b (some ⟨g, 0, none⟩) m cap (stage (nats d.done) T L 0) ds d.room d.off fu lf by
      have := H1.out.cut0 hmn
      rw [HS0.out] at this
      exact this.drew)
    have HB2 := Lib.hid (show Apart S w (w1.setCell ⟨b, 0, none⟩ (.slice (some ⟨g, 0, none⟩) m cap)).drew from (HB1.out.trans (Apart.but ((HS.out b).2 (.inl rfl)) (But.set b 0 _ _))).drew)
    clear c0 c1 f0 H1 HB1
    generalize (w1.setCell ⟨b, 0, none⟩ (.slice (some ⟨g, 0, none⟩) m cap)).drew = w2 at HR2 HB2 ⊢
    go_wp2_with fail
    go_loopg [38] n (fun gh s38 wx => ∃ i : Nat, i + gh = n ∧ s38 = .int .i64 (i : Int) ∧ Raw wx b (some ⟨g, 0, none⟩) m cap (stage (nats d.done) T L i) ds d.room d.off fu lf ∧ Apart S w wx)
    case atStart => exact ⟨0, by omega, by go_num, HR2.out, HB2.out⟩
    case round =>
      obtain ⟨i, hi, rfl, hr, hb⟩ := hrel
      have HI := Lib.hid hr
      have HB := Lib.hid hb
      have c0 := Lies.cell (i := 0) hr.lies rfl
      have c1 := Lies.cell (i := 1) hr.lies rfl
      clear HR2 HB2 hr hb
      by_cases hin : i < n
      · have t1 : decide ((i : Int) < (n : Int)) = true := decide_eq_true (by omega)
        have t1' : decide (i < n) = true := decide_eq_true hin
        have k1 : IntKind.i64.wrap ((i : Int) + 1) = ((i + 1 : Nat) : Int) := by rw [IntKind.wrap_i64]; omega
        have HP := Lib.hid (fun wx : World => sparesR mask i wx (by omega) hmask)
        obtain ⟨c, hc1, hc2⟩ := HTL.out i hin
        cases hsp : sparesB mask i with
        | true =>
          rw [hsp] at hc2
          have HE := Lib.hid (stage_same (A := nats d.done) hc2 hc1)
          rw [hsp] at HP
          clear hc1 hc2
          go_wp2_with (go_at_call 27; refine (HP.out _).mono ?_; rintro e w3 ⟨rfl, rfl⟩)
          go_roundg (n - (i + 1))
          case measure => omega
          case rel => exact ⟨i + 1, by omega, by go_num, by rw [HE.out]; exact HI.out, HB.out⟩
        | false =>
          rw [hsp] at hc2
          have HE := Lib.hid (show stage (nats d.done) T L (i + 1) = (stage (nats d.done) T L i).set (ds + i) 0 by
            have h1 := stage_step (A := nats d.done) hc2 hc1
            rw [HA.out] at h1
            exact h1)
          rw [hsp] at HP
          clear hc1 hc2
          obtain ⟨j, hj⟩ : ∃ j, j = ds + i := ⟨_, rfl⟩
          have k2 : IntKind.i64.wrap ((ds : Int) + (i : Int)) = (j : Int) := by rw [IntKind.wrap_i64]; omega
          have hjm : j < m := by have := HM.out; omega
          have hd : ∃ x, wr.cell? ⟨g, j, none⟩ = some (.int .u8 (x : Int)) := by
            have hll := HI.out.len
            have h1 := HI.out.own.cellAt j (by omega)
            rw [byteVals_at, List.getElem?_eq_getElem (by omega)] at h1
            exact ⟨_, h1⟩
          obtain ⟨x, d1⟩ := hd
          have f1 : wr.frozen? ⟨g, j, none⟩ = false := HI.out.own.frozenAt j
          have HJ := Lib.hid hj
          clear hj
          go_wp2_with (go_at_call 27; refine (HP.out _).mono ?_; rintro e w3 ⟨rfl, rfl⟩)
          go_region
          have HR3 := Lib.hid (show Raw (w3.setCell ⟨g, j, none⟩ (.int .u8 0)).drew b (some ⟨g, 0, none⟩) m cap (stage (nats d.done) T L (i + 1)) ds d.room d.off fu lf by
            have h1 := HI.out.byte j 0
            rw [show (stage (nats d.done) T L i).set j 0 = stage (nats d.done) T L (i + 1) by rw [HJ.out]; exact HE.out.symm] at h1
            exact h1.drew)
          have HB3 := Lib.hid (show Apart S w (w3.setCell ⟨g, j, none⟩ (.int .u8 0)).drew from (HB.out.trans (Apart.but ((HS.out g).2 (.inr rfl)) (But.set g j _ _))).drew)
          clear c0 c1 d1 f1 HI HB
          generalize (w3.setCell ⟨g, j, none⟩ (.int .u8 0)).drew = w4 at HR3 HB3 ⊢
          go_wp2
          go_roundg (n - (i + 1))
          case measure => omega
          case rel => exact ⟨i + 1, by omega, by go_num, HR3.out, HB3.out⟩
      · obtain rfl : i = n := by omega
        have t1 : decide ((i : Int) < (i : Int)) = false := decide_eq_false (by omega)
        have t1' : decide (i < i) = false := decide_eq_false (by omega)
        have c3 := Lies.cell (i := 3) HI.out.lies rfl
        have c4 := Lies.cell (i := 4) HI.out.lies rfl
        have f1 := Lies.free HI.out.lies 1
        have f3 := Lies.free HI.out.lies 3
        have f4 := Lies.free HI.out.lies 4
        have HG := Lib.hid (((HI.out.put (i := 1) (x := .int .i64 (m : Int)) rfl).put (i := 3) (x := .bool false) (dn' := false) rfl).put (i := 4) (x := .bool false) (fu' := false) rfl)
        have HBB := Lib.hid (HB.out.trans (Apart.but ((HS.out b).2 (.inl rfl)) (((But.set b 1 _ (.int .i64 (m : Int))).trans (But.set b 3 _ (.bool false))).trans (But.set b 4 _ (.bool false)))))
        go_wp2
        go_end0
        exact ⟨rfl, does_of HS.out HG.out HX.out.symm (by rw [HY.out]) rfl rfl ⟨HF.out.1, fun _ => ⟨rfl, fun h => absurd h (by show ¬ (0 : Int) ≤ -1; decide)⟩⟩ (fun _ hk => .inl hk) HBB.out⟩
end Go.Proofs.YtajkldmpllphjaaDoor
namespace Go.Proofs.YtajkldmpllphjaaDoor
open Go.RowKit BlockMath TextNat

set_option maxRecDepth 100000 in
theorem downN (w : World) : Calls Tryd.prog 29 #[.pointer none] w fun e w' => e = .returned (.bool true) ∧ w' = w := by
  go_enter Tryd.func29, Tryd.ntmps29
  go_wp2
  go_ret
  exact ⟨rfl, rfl⟩
set_option maxRecDepth 100000 in
theorem lenN (w : World) : Calls Tryd.prog 25 #[.pointer none] w fun e w' => e = .returned (.int .i64 0) ∧ w' = w := by
  have HD := Lib.hid (downN w)
  go_enter Tryd.func25, Tryd.ntmps25
  go_wp2_with (go_at_call 29; refine HD.out.mono ?_; rintro e w2 ⟨rfl, rfl⟩)
  go_ret
  exact ⟨rfl, rfl⟩
set_option maxRecDepth 100000 in
theorem safeN (w : World) : Calls Tryd.prog 36 #[.pointer none] w fun e w' => e = .returned (.int .i64 0) ∧ w' = w := by
  have HD := Lib.hid (downN w)
  go_enter Tryd.func36, Tryd.ntmps36
  go_wp2_with (go_at_call 29; refine HD.out.mono ?_; rintro e w2 ⟨rfl, rfl⟩)
  go_ret
  exact ⟨rfl, rfl⟩
set_option maxRecDepth 100000 in
theorem refN (c : Int) (w : World) : Calls Tryd.prog 45 #[.pointer none, .int .i64 c] w fun e w' => (∃ x, e = .returned x ∧ ErrIs w' c x) ∧ Below w.heap.size w w' := by
  have HL := Lib.hid (lenN w)
  have HE := Lib.hid (at_some ⟨#[98, 108, 111, 99, 107]⟩ 0 33 (.int .i64 c) w)
  have HN := Lib.hid (err_new w 0 c)
  have HB := Lib.hid (show Below w.heap.size w (w.alloc (.cells #[.string ⟨#[98, 108, 111, 99, 107]⟩, .int .i64 0, .iface 33 (.int .i64 c)] 69)) from (Below.refl _ _).alloc (Nat.le_refl _) _)
  go_enter Tryd.func45, Tryd.ntmps45
  go_wp2_with (first
    | (go_at_call 25; refine HL.out.mono ?_; rintro e w2 ⟨rfl, rfl⟩)
    | (go_at_call 15; refine HE.out.mono ?_; rintro e w2 ⟨rfl, rfl⟩))
  go_ret
  exact ⟨⟨_, rfl, HN.out.is⟩, HB.out⟩
end Go.Proofs.YtajkldmpllphjaaDoor
namespace Go.Proofs.YtajkldmpllphjaaDoor
open Go.RowKit BlockMath TextNat JournalMath

/-- Wraps around a last cause, each in a block of the type Error. -/
def ChainT (w : World) : List Wrap → Value → Value → Prop
  | [], last, v => v = last
  | x :: l, last, v => ∃ b u, v = .iface 67 (.pointer (some ⟨b, 0, none⟩)) ∧ Lies w b [.string x.1, .int .i64 x.2, u] 69 ∧ ChainT w l last u
theorem ChainT.chain {w : World} : ∀ {l : List Wrap} {last v : Value}, ChainT w l last v → Chain w.heap.size w l last v
  | [], _, _, h => h
  | _ :: _, _, _, ⟨b, u, h1, h2, h3⟩ => ⟨b, u, h1, h2.lt, h2.cell (i := 0) rfl, h2.cell (i := 1) rfl, h2.cell (i := 2) rfl, h3.chain⟩
theorem ChainT.keep {w w' : World} (hk : ∀ (b : Nat) (l : List Value), Lies w b l 69 → Lies w' b l 69) : ∀ {l : List Wrap} {last v : Value}, ChainT w l last v → ChainT w' l last v
  | [], _, _, h => h
  | _ :: _, _, _, ⟨b, u, h1, h2, h3⟩ => ⟨b, u, h1, hk b _ h2, h3.keep hk⟩
/-- An error whose last cause is this code. -/
def ErrT (w : World) (c : Int) (x : Value) : Prop := ∃ l, ChainT w l (.iface 33 (.int .i64 c)) x
theorem ErrT.is {w : World} {c : Int} {x : Value} (h : ErrT w c x) : ErrIs w c x := by
  obtain ⟨l, h⟩ := h
  exact ⟨l, h.chain⟩
theorem ErrT.below {w w' : World} {c : Int} {x : Value} (h : ErrT w c x) (hb : Below w.heap.size w w') : ErrT w' c x := by
  obtain ⟨l, h⟩ := h
  exact ⟨l, h.keep fun b l h => h.below hb⟩
/-- What blocks hold isn't errors. -/
def Typed (w : World) (S : Nat → Prop) : Prop := ∀ k, S k → ∃ cs T fr, w.heap[k]? = some (.cells cs T fr) ∧ T ≠ 69
theorem ErrT.apart {w w' : World} {S : Nat → Prop} {c : Int} {x : Value} (h : ErrT w c x) (ha : Apart S w w') (hS : Typed w S) : ErrT w' c x := by
  obtain ⟨l, h⟩ := h
  refine ⟨l, h.keep fun b l h => (ha.block b h.lt fun hs => ?_).trans h⟩
  obtain ⟨cs, T, fr, h1, h2⟩ := hS b hs
  unfold Lies at h
  rw [h1] at h
  simp at h
  exact h2 h.2.1
theorem ErrT.new {B : Nat} {w : World} {n c : Int} {x : Value} (h : ErrNew B w n c x) : ErrT w c x := by
  obtain ⟨b, _, rfl, h⟩ := h
  exact ⟨[(name, n)], b, _, rfl, h, rfl⟩
theorem ErrT.code (w : World) (c : Int) : ErrT w c (.iface 33 (.int .i64 c)) := ⟨[], rfl⟩
theorem ErrT.iface {w : World} {c : Int} {x : Value} (h : ErrT w c x) : ∃ T y, x = .iface T y := h.is.iface
/-- What fail.At makes of an error. -/
theorem at_errT (s : ByteArray) (n : Int) {c : Int} {x : Value} {w : World} (h : ErrT w c x) : Calls Tryd.prog 15 #[.string s, .int .i64 n, x] w fun e w' => (∃ r, e = .returned r ∧ ErrT w' c r) ∧ Below w.heap.size w w' := by
  obtain ⟨T, y, rfl⟩ := h.iface
  refine (at_some s n T y w).mono ?_
  rintro e w' ⟨rfl, rfl⟩
  have hb : Below w.heap.size w (w.alloc (.cells #[.string s, .int .i64 n, .iface T y] 69)) := (Below.refl _ _).alloc (Nat.le_refl _) _
  obtain ⟨l, h2⟩ := h.below hb
  exact ⟨⟨_, rfl, (s, n) :: l, w.heap.size, _, rfl, Lies.new w _ _, h2⟩, hb⟩
/-- The error that a number says, typed: none of 0. -/
def TErr (w : World) (c : Int) (x : Value) : Prop := if c = 0 then x = .nilIface else ErrT w c x
theorem TErr.zero {w : World} {c : Int} {x : Value} (h : TErr w c x) (hc : c = 0) : x = .nilIface := by rwa [TErr, if_pos hc] at h
theorem TErr.not {w : World} {c : Int} {x : Value} (h : TErr w c x) (hc : c ≠ 0) : ErrT w c x := by rwa [TErr, if_neg hc] at h
theorem TErr.jerr {w : World} {c : Int} {x : Value} (h : TErr w c x) : JErr w c x := by
  unfold JErr
  split
  · rename_i h0
    exact h.zero h0
  · rename_i h0
    exact (h.not h0).is
theorem TErr.of {B : Nat} {w : World} {c n : Int} {x : Value} (h : ErrOf B w c n x) : TErr w c x := by
  unfold TErr
  split
  · rename_i h0
    exact h.zero h0
  · rename_i h0
    exact .new (h.not h0)
theorem dev_typed {w : World} {b : Nat} {S : Nat → Prop} {d : Dk} (h : dev.at_ w b S d) : Typed w S := by
  obtain ⟨p, n, cap, fu, lf, h, hf, hS⟩ := h
  intro k hk
  rcases (hS k).1 hk with rfl | hk
  · exact ⟨_, _, _, h.lies, by decide⟩
  · rcases own_cases h.own with ⟨rfl, _⟩ | ⟨g, cur, rfl, hg, _⟩
    · cases hk
    · simp at hk
      subst hk
      exact ⟨_, _, _, hg, by decide⟩
/-- A device through several calls. -/
structure Been (w : World) (b : Nat) (S : Nat → Prop) (d : Dk) (w1 : World) (S1 : Nat → Prop) : Prop where
  at_ : dev.at_ w1 b S1 d
  incl : ∀ k, S1 k → S k ∨ w.heap.size ≤ k
  apart : Apart S w w1
theorem Been.start {w : World} {b : Nat} {S : Nat → Prop} {d : Dk} (h : dev.at_ w b S d) : Been w b S d w S := ⟨h, fun _ hk => .inl hk, .refl S w⟩
theorem Been.below {w w1 w2 : World} {b : Nat} {S S1 : Nat → Prop} {d : Dk} (h : Been w b S d w1 S1) (hb : Below w1.heap.size w1 w2) : Been w b S d w2 S1 :=
  ⟨dev.stays h.at_ hb.size fun k hk => hb.block k (dev.lt h.at_ k hk), h.incl, h.apart.trans (.of hb)⟩
theorem Been.does {w w1 w2 : World} {b : Nat} {S S1 : Nat → Prop} {d d2 : Dk} (h : Been w b S d w1 S1) (h2 : Does dev w1 b S1 d2 w2) : ∃ S2, Been w b S d2 w2 S2 := by
  obtain ⟨⟨S2, q1, q2⟩, q3⟩ := h2
  refine ⟨S2, q1, fun k hk => ?_, q3.os.trans h.apart.os, q3.tape.trans h.apart.tape, q3.output.trans h.apart.output, Nat.le_trans h.apart.size q3.size, fun k hk hn => ?_⟩
  · rcases q2 k hk with h3 | h3
    · exact h.incl k h3
    · exact .inr (Nat.le_trans h.apart.size h3)
  · refine (q3.block k (Nat.lt_of_lt_of_le hk h.apart.size) fun hs => ?_).trans (h.apart.block k hk hn)
    rcases h.incl k hs with h3 | h3
    · exact hn h3
    · omega
theorem Been.to {w w1 : World} {b : Nat} {S S1 : Nat → Prop} {d : Dk} (h : Been w b S d w1 S1) : Does dev w b S d w1 := ⟨⟨S1, h.at_, h.incl⟩, h.apart⟩
/-- crc's tables are there still: they lie in none of these blocks. -/
theorem Been.tables {w w1 : World} {b : Nat} {S S1 : Nat → Prop} {d : Dk} (h : Been w b S d w1 S1) (hT : Tables w) (hS : Far S) : Tables w1 := hT.apart h.apart hS
end Go.Proofs.YtajkldmpllphjaaDoor
namespace Go.Proofs.YtajkldmpllphjaaDoor
open Go.RowKit BlockMath TextNat JournalMath

theorem records_snoc {xs : List ByteArray} {i : Nat} {x : ByteArray} (g pl : Nat) (h : xs[i]? = some x) : enc (recordsP g pl ((xs.take (i + 1)).map nats)) = enc (recordsP g pl ((xs.take i).map nats)) ++ sealP ⟨2, g, pl, nats x⟩ := by
  rw [List.take_add_one, h]
  unfold recordsP
  simp only [List.map_append, Option.toList_some, List.map_cons, List.map_nil]
  rw [enc_append]
  simp [enc]
/-- How long the frames of records are. -/
theorem records_len (g pl : Nat) : ∀ xs : List ByteArray, (enc (recordsP g pl (xs.map nats))).length ≤ 93 * xs.length + 2 * (xs.map ByteArray.size).sum
  | [] => by simp [recordsP, enc]
  | x :: r => by
    have h1 := records_len g pl r
    have h2 := payload_len ⟨2, g, pl, nats x⟩
    have h3 : (sealP ⟨2, g, pl, nats x⟩).length = 21 + 2 * (payload ⟨2, g, pl, nats x⟩).length := FrameMath.framed_len _
    have h4 : (nats x).length = x.size := nats_len x
    show (sealP ⟨2, g, pl, nats x⟩ ++ enc (recordsP g pl (r.map nats))).length ≤ _
    simp only [List.length_append, List.length_cons, List.map_cons, List.sum_cons]
    simp only [h4] at h2
    omega
theorem sum_take : ∀ (xs : List ByteArray) (i : Nat), ((xs.take i).map ByteArray.size).sum ≤ (xs.map ByteArray.size).sum
  | [], i => by simp
  | x :: r, 0 => by simp
  | x :: r, i + 1 => by
    have := sum_take r i
    simp only [List.take_succ_cons, List.map_cons, List.sum_cons]
    omega
theorem txt_more (a b : List Nat) : txt a ++ txt b = txt (a ++ b) := by
  apply ByteArray.ext
  simp [txt, ByteArray.data_append]
theorem TextsIn.same {w w' : World} {pp : Option Addr} {xs : List ByteArray} (h : TextsIn w pp xs) (hk : ∀ a, pp = some a → 0 < xs.length → w'.heap[a.block]? = w.heap[a.block]?) : TextsIn w' pp xs := fun i x hx => by
  obtain ⟨b, off, rfl, hc⟩ := h i x hx
  refine ⟨b, off, rfl, ?_⟩
  have := hk _ rfl (by have := (List.getElem?_eq_some_iff.1 hx).1; omega)
  rw [← hc]
  unfold World.cell?
  simp only [this]
set_option maxRecDepth 100000 in
set_option maxHeartbeats 4000000 in
theorem plong_ok (pp : Option Addr) (cap : Nat) (xs : List ByteArray) (w : World) (hx : TextsIn w pp xs) (hl : xs.length ≤ 9223372036854775807) :
    Calls Tryd.prog 20 #[.slice pp xs.length cap] w fun e w' => e = .returned (.bool (JournalMath.long (xs.map nats))) ∧ w' = w := by
  have HX := Lib.hid hx
  obtain ⟨N, hN⟩ : ∃ N, N = xs.length := ⟨_, rfl⟩
  have HN := Lib.hid hN
  have hN9 : N ≤ 9223372036854775807 := by rw [hN]; exact hl
  rw [← hN]
  clear hx hN hl
  go_enter Tryd.func20, Tryd.ntmps20
  go_wp2_with fail
  go_loopg [7] N (fun gh s7 wx => ∃ i : Nat, i + gh = N ∧ s7 = .int .i64 (i : Int) ∧ (∀ j x, j < i → xs[j]? = some x → x.size ≤ 4096) ∧ wx = w)
  case atStart => exact ⟨0, by omega, by go_num, fun j x h => by omega, rfl⟩
  case round =>
    obtain ⟨i, hi, rfl, hall, rfl⟩ := hrel
    by_cases hin : i < N
    case neg =>
      have u1 : decide ((i : Int) < (N : Int)) = false := decide_eq_false (by omega)
      have u1' : decide (i < N) = false := decide_eq_false hin
      have HE := Lib.hid (show JournalMath.long (xs.map nats) = false by
        unfold JournalMath.long
        rw [List.any_eq_false]
        intro t ht
        obtain ⟨x, hx, rfl⟩ := List.mem_map.1 ht
        obtain ⟨j, hj⟩ := List.getElem?_of_mem hx
        have := hall j x (by have := (List.getElem?_eq_some_iff.1 hj).1; have := HN.out; omega) hj
        rw [nats_len]
        simp
        omega)
      clear hi hin hall
      go_wp2
      go_ret
      exact ⟨by rw [HE.out]; rfl, rfl⟩
    case pos =>
      have u1 : decide ((i : Int) < (N : Int)) = true := decide_eq_true (by omega)
      have u1' : decide (i < N) = true := decide_eq_true hin
      obtain ⟨x, hxi⟩ : ∃ x, xs[i]? = some x := ⟨_, List.getElem?_eq_getElem (by rw [← HN.out]; exact hin)⟩
      obtain ⟨b, off, rfl, c0⟩ := HX.out i x hxi
      obtain ⟨m, hm⟩ : ∃ m, m = x.size := ⟨_, rfl⟩
      have e1 : (x.size : Int) = (m : Int) := by omega
      have HA := Lib.hid hall
      have HI := Lib.hid hi
      have HIN := Lib.hid hin
      have HXI := Lib.hid hxi
      have HM := Lib.hid hm
      by_cases h4 : 4096 < m
      · have t1 : decide ((4096 : Int) < (m : Int)) = true := decide_eq_true (by omega)
        have t1' : decide (4096 < m) = true := decide_eq_true h4
        have HE := Lib.hid (show JournalMath.long (xs.map nats) = true by
          unfold JournalMath.long
          rw [List.any_eq_true]
          exact ⟨nats x, List.mem_map.2 ⟨x, List.mem_of_getElem? hxi, rfl⟩, decide_eq_true (by rw [nats_len]; omega)⟩)
        clear hi hall hxi hm h4
        go_wp2
        go_ret
        exact ⟨by rw [HE.out]; rfl, rfl⟩
      · have t1 : decide ((4096 : Int) < (m : Int)) = false := decide_eq_false (by omega)
        have t1' : decide (4096 < m) = false := decide_eq_false h4
        have H4 := Lib.hid h4
        clear hi hall hxi hm h4
        go_wp2_with fail
        go_roundg (N - (i + 1))
        case measure => have := HI.out; have := HIN.out; omega
        case rel => exact ⟨i + 1, by have := HIN.out; omega, by go_num, fun j y hj hy => by
          by_cases hji : j < i
          · exact HA.out j y hji hy
          · obtain rfl : j = i := by omega
            rw [HXI.out] at hy
            obtain rfl := Option.some.inj hy
            have := H4.out
            have := HM.out
            omega, rfl⟩
end Go.Proofs.YtajkldmpllphjaaDoor
namespace Go.Proofs.YtajkldmpllphjaaDoor
open Go.RowKit BlockMath TextNat JournalMath

/-- The journal with one of its devices another one. -/
def Jn.with_ (j : Jn) (sel : Bool) (d : Dk) : Jn := if sel then { j with b := d } else { j with a := d }
def Jn.dev_ (j : Jn) (sel : Bool) : Dk := if sel then j.b else j.a
theorem with_cur (j : Jn) (d : Dk) : Jn.with_ j j.now d = j.setCur d := rfl
theorem with_spare (j : Jn) (d : Dk) : Jn.with_ j (!j.now) d = j.setSpare d := by
  unfold Jn.with_ Jn.setSpare
  cases j.now <;> rfl
theorem dev_cur (j : Jn) : Jn.dev_ j j.now = j.cur := rfl
theorem dev_spare (j : Jn) : Jn.dev_ j (!j.now) = j.spare := by
  unfold Jn.dev_ Jn.spare
  cases j.now <;> rfl
/-- One of a journal's devices and its own cells; what there is when both have gone on. -/
theorem Trio.one {D : Dev} {J : Jrn} {w : World} {p ba bb : Nat} {S : Nat → Prop} {j : Jn} (h : Trio D J w p ba bb S j) (sel : Bool) :
    ∃ Sd Sj, D.at_ w (if sel then bb else ba) Sd (Jn.dev_ j sel) ∧ J.at_ w p Sj ba bb j.now j.gen j.over ∧ (∀ k, Sd k → ¬ Sj k) ∧ (∀ k, Sd k → S k) ∧ (∀ k, Sj k → S k) ∧ Ok (Jn.dev_ j sel) ∧
      ∀ (w' : World) (d' : Dk) (n' : Bool) (g' : Nat) (o' : Bool) (Sd' : Nat → Prop), D.at_ w' (if sel then bb else ba) Sd' d' → (∀ k, Sd' k → Sd k ∨ w.heap.size ≤ k) → J.at_ w' p Sj ba bb n' g' o' → Apart (fun k => Sd k ∨ Sj k) w w' → Ok d' →
        DoesJ D J w p ba bb S { Jn.with_ j sel d' with now := n', gen := g', over := o' } w' := by
  obtain ⟨Sa, Sb, Sj, h1, h2, h3, h4, h5, h6, h7⟩ := h.lies
  have hla := D.lt h1
  have hlb := D.lt h2
  have hlj := J.lt h3
  cases sel with
  | false =>
    refine ⟨Sa, Sj, h1, h3, h5, fun k hk => (h7 k).2 (.inl hk), fun k hk => (h7 k).2 (.inr (.inr hk)), h.oka, fun w' d' n' g' o' Sd' q1 q2 q3 q4 q5 => ?_⟩
    have hb2 : D.at_ w' bb Sb j.b := D.stays h2 q4.size fun k hk => q4.block k (hlb k hk) fun hs => hs.elim (fun hs => h4 k hs hk) (fun hs => h6 k hk hs)
    refine ⟨⟨fun k => Sd' k ∨ Sb k ∨ Sj k, ⟨⟨Sd', Sb, Sj, q1, hb2, q3, fun k hk hb => ?_, fun k hk hb => ?_, h6, fun k => Iff.rfl⟩, h.ne, q5, h.okb⟩, fun k hk => ?_⟩, q4.os, q4.tape, q4.output, q4.size, fun k hk hn => q4.block k hk fun hs => hn (hs.elim (fun hs => (h7 k).2 (.inl hs)) (fun hs => (h7 k).2 (.inr (.inr hs))))⟩
    · rcases q2 k hk with h | h
      · exact h4 k h hb
      · have := hlb k hb
        omega
    · rcases q2 k hk with h | h
      · exact h5 k h hb
      · have := hlj k hb
        omega
    · rcases hk with hk | hk
      · rcases q2 k hk with h | h
        · exact .inl ((h7 k).2 (.inl h))
        · exact .inr h
      · exact .inl ((h7 k).2 (.inr hk))
  | true =>
    refine ⟨Sb, Sj, h2, h3, h6, fun k hk => (h7 k).2 (.inr (.inl hk)), fun k hk => (h7 k).2 (.inr (.inr hk)), h.okb, fun w' d' n' g' o' Sd' q1 q2 q3 q4 q5 => ?_⟩
    have ha2 : D.at_ w' ba Sa j.a := D.stays h1 q4.size fun k hk => q4.block k (hla k hk) fun hs => hs.elim (fun hs => h4 k hk hs) (fun hs => h5 k hk hs)
    refine ⟨⟨fun k => Sa k ∨ Sd' k ∨ Sj k, ⟨⟨Sa, Sd', Sj, ha2, q1, q3, fun k hk hb => ?_, h5, fun k hk hb => ?_, fun k => Iff.rfl⟩, h.ne, h.oka, q5⟩, fun k hk => ?_⟩, q4.os, q4.tape, q4.output, q4.size, fun k hk hn => q4.block k hk fun hs => hn (hs.elim (fun hs => (h7 k).2 (.inr (.inl hs))) (fun hs => (h7 k).2 (.inr (.inr hs))))⟩
    · rcases q2 k hb with h | h
      · exact h4 k hk h
      · have := hla k hk
        omega
    · rcases q2 k hk with h | h
      · exact h6 k h hb
      · have := hlj k hb
        omega
    · rcases hk with hk | hk | hk
      · exact .inl ((h7 k).2 (.inl hk))
      · rcases q2 k hk with h | h
        · exact .inl ((h7 k).2 (.inr (.inl h)))
        · exact .inr h
      · exact .inl ((h7 k).2 (.inr (.inr hk)))
theorem ends_is (j : Jn) (sel : Bool) (d : Dk) (e : Int) : Jn.ends (Jn.with_ j sel d) e = { Jn.with_ j sel d with now := j.now, gen := j.gen, over := j.over || (decide (e ≠ 0) && decide (e ≠ 4)) } := by
  unfold Jn.ends Jn.with_
  cases sel <;> rfl
end Go.Proofs.YtajkldmpllphjaaDoor
namespace Go.Proofs.YtajkldmpllphjaaDoor
open Go.RowKit BlockMath TextNat JournalMath

abbrev jname : ByteArray := ⟨#[106, 111, 117, 114, 110, 97, 108]⟩
def JAt (w : World) (p : Nat) (S : Nat → Prop) (ba bb : Nat) (n : Bool) (g : Nat) (o : Bool) : Prop :=
  Lies w p [ptr (if n then bb else ba), ptr (if n then ba else bb), .int .i64 (g : Int), .bool o] 50 ∧ g ≤ big ∧ ∀ k, S k ↔ k = p
def jrn : Jrn where
  at_ := JAt
  stays := by
    rintro w w' p ba bb g S n o ⟨h1, h2, h3⟩ hs hk
    exact ⟨(hk p ((h3 p).2 rfl)).trans h1, h2, h3⟩
  lt := by
    rintro w p ba bb g S n o ⟨h1, h2, h3⟩ k hk
    rw [(h3 k).1 hk]
    exact h1.lt
theorem JAt.typed {w : World} {p ba bb g : Nat} {S : Nat → Prop} {n o : Bool} (h : JAt w p S ba bb n g o) : Typed w S := by
  intro k hk
  rw [(h.2.2 k).1 hk]
  exact ⟨_, _, _, h.1, by decide⟩
set_option maxRecDepth 100000 in
theorem genOk : GenOk dev jrn := by
  intro p ba bb S j w h
  obtain ⟨Sa, Sb, Sj, h1, h2, h3, _⟩ := h.lies
  have c2 := Lies.cell (i := 2) h3.1 rfl
  clear h h1 h2 h3
  go_enter Tryd.func11, Tryd.ntmps11
  go_wp2
  go_ret
  exact ⟨rfl, Below.refl _ _⟩
set_option maxRecDepth 100000 in
theorem sizeOk : SizeOk dev jrn := by
  intro p ba bb S j w h
  obtain ⟨Sd, Sj, h1, h2, _, _, _, ok, _⟩ := h.one j.now
  have c0 := Lies.cell (i := 0) h2.1 rfl
  have HL := Lib.hid (lenOk _ Sd _ w h1 ok)
  rw [dev_cur] at HL
  obtain ⟨q, hq⟩ : ∃ q, q = if j.now then bb else ba := ⟨_, rfl⟩
  rw [← hq] at HL c0
  clear h h1 h2 ok hq
  go_enter Tryd.func10, Tryd.ntmps10
  go_wp2_with fail
  refine HL.out.mono ?_
  rintro e w2 ⟨rfl, hb⟩
  have HB := Lib.hid hb
  clear hb
  go_wp2
  go_ret
  exact ⟨rfl, HB.out⟩
set_option maxRecDepth 100000 in
theorem pgen_ok (p ba bb g : Nat) (S : Nat → Prop) (n o : Bool) (w : World) (h : JAt w p S ba bb n g o) :
    Calls Tryd.prog 11 #[ptr p] w fun e w' => e = .returned (.int .i64 (g : Int)) ∧ w' = w := by
  have c2 := Lies.cell (i := 2) h.1 rfl
  clear h
  go_enter Tryd.func11, Tryd.ntmps11
  go_wp2
  go_ret
  exact ⟨rfl, rfl⟩
set_option maxRecDepth 100000 in
theorem pended_ok (p ba bb g : Nat) (S : Nat → Prop) (n o : Bool) (w : World) (h : JAt w p S ba bb n g o) :
    Calls Tryd.prog 18 #[ptr p] w fun e w' => e = .returned (.bool o) ∧ w' = w := by
  have c3 := Lies.cell (i := 3) h.1 rfl
  clear h
  go_enter Tryd.func18, Tryd.ntmps18
  go_wp2
  go_ret
  exact ⟨rfl, rfl⟩
set_option maxRecDepth 100000 in
theorem prefusal_ok (p ba bb g : Nat) (S : Nat → Prop) (n o : Bool) (c : Int) (x : Value) (w : World) (h : JAt w p S ba bb n g o) (hx : ErrT w c x) :
    Calls Tryd.prog 19 #[ptr p, x] w fun e w' => (∃ r, e = .returned r ∧ ErrT w' c r) ∧ Below w.heap.size w w' := by
  have HG := Lib.hid (pgen_ok p ba bb g S n o w h)
  have HX := Lib.hid hx
  obtain ⟨T, u, rfl⟩ := hx.iface
  clear h hx
  go_enter Tryd.func19, Tryd.ntmps19
  go_wp2_with fail
  refine HG.out.mono ?_
  rintro e w2 ⟨rfl, hw⟩
  rw [hw]
  clear hw
  go_wp2_with fail
  refine (at_errT jname (g : Int) HX.out).mono ?_
  rintro e w3 ⟨⟨r, rfl, hr⟩, hb⟩
  have HR := Lib.hid hr
  have HB := Lib.hid hb
  clear hr hb
  go_wp2
  go_ret
  exact ⟨⟨_, rfl, HR.out⟩, HB.out⟩
set_option maxRecDepth 100000 in
set_option maxHeartbeats 4000000 in
theorem panswer_ok (p ba bb g : Nat) (S : Nat → Prop) (n o : Bool) (c : Int) (x : Value) (w : World) (h : JAt w p S ba bb n g o) (hx : TErr w c x) :
    Calls Tryd.prog 22 #[ptr p, x] w fun e w' => (∃ r, e = .returned r ∧ TErr w' c r) ∧ JAt w' p S ba bb n g (o || (decide (c ≠ 0) && decide (c ≠ 4))) ∧ Apart S w w' := by
  obtain ⟨hl, hgb, hS⟩ := h
  have L := Lib.hid hl
  have HS := Lib.hid hS
  have HG := Lib.hid hgb
  have HT := Lib.hid (show Typed w S from JAt.typed ⟨hl, hgb, hS⟩)
  have c2 := Lies.cell (i := 2) hl rfl
  have c3 := Lies.cell (i := 3) hl rfl
  have f3 := Lies.free hl 3
  by_cases h0 : c = 0
  · subst h0
    obtain rfl := hx.zero rfl
    clear hl hgb hS hx
    go_enter Tryd.func22, Tryd.ntmps22
    go_wp2
    go_ret
    exact ⟨⟨.nilIface, rfl, by unfold TErr; rw [if_pos rfl]⟩, ⟨by rw [show (o || (decide ((0 : Int) ≠ 0) && decide ((0 : Int) ≠ 4))) = o by simp]; exact L.out, HG.out, HS.out⟩, Apart.refl S _⟩
  · have hE := hx.not h0
    obtain ⟨T, u, rfl⟩ := hE.iface
    have HE := Lib.hid hE
    have HI := Lib.hid (is_err hE.is 4)
    have H0 := Lib.hid h0
    by_cases h4 : c = 4
    · have e4 : (c == (4 : Int)) = true := by rw [beq_iff_eq]; exact h4
      rw [e4] at HI
      have HO := Lib.hid (show (o || (decide (c ≠ 0) && decide (c ≠ 4))) = o by simp [h4])
      clear hl hgb hS hx hE h0 h4 e4
      go_enter Tryd.func22, Tryd.ntmps22
      go_wp2_with (go_at_call 7; refine HI.out.mono ?_; rintro e w8 ⟨rfl, hw8⟩; rw [hw8]; clear hw8)
      refine (prefusal_ok p ba bb g S n o c _ w ⟨L.out, HG.out, HS.out⟩ HE.out).mono ?_
      rintro e w2 ⟨⟨r, rfl, hr⟩, hb⟩
      have HR := Lib.hid hr
      have HB := Lib.hid hb
      clear hr hb
      go_wp2
      go_ret
      rw [HO.out]
      exact ⟨⟨_, rfl, by unfold TErr; rw [if_neg H0.out]; exact HR.out⟩, ⟨L.out.below HB.out, HG.out, HS.out⟩, Apart.of HB.out⟩
    · have e4 : (c == (4 : Int)) = false := by rw [beq_eq_false_iff_ne]; exact h4
      rw [e4] at HI
      have HO := Lib.hid (show (o || (decide (c ≠ 0) && decide (c ≠ 4))) = true by simp [h0, h4])
      have L2 := Lib.hid (show Lies (w.setCell ⟨p, 3, none⟩ (.bool true)) p [ptr (if n then bb else ba), ptr (if n then ba else bb), .int .i64 (g : Int), .bool true] 50 from hl.set 3 (.bool true))
      have A2 := Lib.hid (show Apart S w (w.setCell ⟨p, 3, none⟩ (.bool true)) from Apart.but ((hS p).2 rfl) (But.set p 3 w _))
      have E2 := Lib.hid (hE.apart A2.out HT.out)
      clear hl hgb hS hx hE h0 h4 e4
      go_enter Tryd.func22, Tryd.ntmps22
      go_wp2_with (go_at_call 7; refine HI.out.mono ?_; rintro e w8 ⟨rfl, hw8⟩; rw [hw8]; clear hw8)
      refine (prefusal_ok p ba bb g S n true c _ _ ⟨L2.out, HG.out, HS.out⟩ E2.out).mono ?_
      rintro e w2 ⟨⟨r, rfl, hr⟩, hb⟩
      have HR := Lib.hid hr
      have HB := Lib.hid hb
      clear hr hb
      go_wp2
      go_ret
      rw [HO.out]
      exact ⟨⟨_, rfl, by unfold TErr; rw [if_neg H0.out]; exact HR.out⟩, ⟨L2.out.below HB.out, HG.out, HS.out⟩, A2.out.trans (Apart.of HB.out)⟩
end Go.Proofs.YtajkldmpllphjaaDoor
namespace Go.Proofs.YtajkldmpllphjaaDoor
open Go.RowKit BlockMath TextNat JournalMath

/-- What is safe on a device, as a number. -/
def safeNo (d : Dk) : Nat := if d.off then 0 else d.done.size
theorem safe_no (d : Dk) : safe d = (safeNo d : Int) := by
  unfold safe safeNo
  cases d.off <;> rfl
theorem safe_top {d : Dk} (ok : Ok d) : safeNo d ≤ WireMath.top := by
  have := ok.all
  unfold safeNo WireMath.top
  split <;> omega
/-- A function that writes parts of a generation and a place. -/
def Writes (w : World) (B : Nat) (v : Value) (g pl : Nat) : Prop := ∃ gb pb, B ≤ gb ∧ B ≤ pb ∧ v = .func (.func 37) #[] #[ptr gb, ptr pb] ∧ Lies w gb [.int .i64 (g : Int)] 3 ∧ Lies w pb [.int .i64 (pl : Int)] 3
theorem Writes.below {w w' : World} {B g pl : Nat} {v : Value} (h : Writes w B v g pl) (hb : Below w.heap.size w w') : Writes w' B v g pl := by
  obtain ⟨gb, pb, h1, h2, h3, h4, h5⟩ := h
  exact ⟨gb, pb, h1, h2, h3, h4.below hb, h5.below hb⟩
set_option maxRecDepth 100000 in
theorem pwriter_ok (b g : Nat) (S : Nat → Prop) (d : Dk) (w : World) (h : dev.at_ w b S d) (ok : Ok d) :
    Calls Tryd.prog 21 #[ptr b, .int .i64 (g : Int)] w fun e w' => (∃ v, e = .returned v ∧ Writes w' w.heap.size v g (safeNo d)) ∧ Below w.heap.size w w' := by
  have al := (Below.refl w.heap.size w).alloc (Nat.le_refl _) (.cells #[.int .i64 (g : Int)] 3)
  have L1 := Lib.hid (Lies.new w [.int .i64 (g : Int)] 3)
  obtain ⟨gb, hgb⟩ : ∃ gb, gb = w.heap.size := ⟨_, rfl⟩
  have HGB := Lib.hid hgb
  obtain ⟨w1, hw1⟩ : ∃ w1, w1 = w.alloc (.cells #[.int .i64 (g : Int)] 3) := ⟨_, rfl⟩
  rw [← hw1] at al
  replace L1 := Lib.hid (show Lies w1 gb [.int .i64 (g : Int)] 3 by rw [hw1, hgb]; exact L1.out)
  have HS := Lib.hid (safeOk b S d w1 (dev.stays h al.size fun k hk => al.block k (dev.lt h k hk)) ok)
  have HA := Lib.hid al
  have HW1 := Lib.hid hw1
  rw [safe_no] at HS
  obtain ⟨n, hn⟩ : ∃ n, n = safeNo d := ⟨_, rfl⟩
  rw [← hn] at HS ⊢
  clear h ok al hw1 hgb hn
  go_enter Tryd.func21, Tryd.ntmps21
  go_wp2_with fail
  rw [← HW1.out, ← HGB.out]
  refine HS.out.mono ?_
  rintro e w2 ⟨rfl, hb⟩
  have HB := Lib.hid (HA.out.trans (hb.mono HA.out.size))
  have L2 := Lib.hid (L1.out.below hb)
  clear hb L1
  go_wp2
  go_ret
  refine ⟨⟨_, rfl, gb, w2.heap.size, Nat.le_of_eq HGB.out.symm, HB.out.size, rfl, ?_, ?_⟩, HB.out.alloc HB.out.size _⟩
  · exact L2.out.below ((Below.refl _ _).alloc (Nat.le_refl _) _)
  · exact Lies.new w2 [.int .i64 (n : Int)] 3
end Go.Proofs.YtajkldmpllphjaaDoor
namespace Go.Proofs.YtajkldmpllphjaaDoor
open Go.Shelf
def Tryd.laysS166_ren : Go.Shelf.Ren := ⟨fun | 166 => 39 | 240 => 50 | 276 => 63 | n => n, fun | 0 => 0 | 3 => 3 | 4 => 4 | 9 => 9 | 20 => 20 | 37 => 54 | 70 => 81 | 72 => 83 | 75 => 29 | 164 => 112 | 5 => 5 | 80 => 88 | n => n, fun | n => n⟩
theorem Tryd.laysS166 : Go.Proofs.Lays.n166 Tryd.prog Tryd.laysS166_ren := {
  mixed := by kernel_rfl
  f166 := Tryd.func39.trans (congrArg some (by kernel_rfl))
  f240 := Tryd.func50.trans (congrArg some (by kernel_rfl))
  f276 := Tryd.func63.trans (congrArg some (by kernel_rfl))
  t0 := Tryd.underlying0
  a0 := Tryd.isAgg0
  z0 := Tryd.sizeOf0
  v0 := Tryd.zeroValue0
  t3 := Tryd.underlying3
  a3 := Tryd.isAgg3
  z3 := Tryd.sizeOf3
  v3 := Tryd.zeroValue3
  t4 := Tryd.underlying4
  a4 := Tryd.isAgg4
  z4 := Tryd.sizeOf4
  v4 := Tryd.zeroValue4
  t9 := Tryd.underlying9
  a9 := Tryd.isAgg9
  z9 := Tryd.sizeOf9
  v9 := Tryd.zeroValue9
  t20 := Tryd.underlying20
  a20 := Tryd.isAgg20
  z20 := Tryd.sizeOf20
  v20 := Tryd.zeroValue20
  t37 := Tryd.underlying54
  a37 := Tryd.isAgg54
  z37 := Tryd.sizeOf54
  v37 := Tryd.zeroValue54
  t70 := Tryd.underlying81
  a70 := Tryd.isAgg81
  z70 := Tryd.sizeOf81
  v70 := Tryd.zeroValue81
  t72 := Tryd.underlying83
  a72 := Tryd.isAgg83
  z72 := Tryd.sizeOf83
  v72 := Tryd.zeroValue83
  t75 := Tryd.underlying29
  a75 := Tryd.isAgg29
  z75 := Tryd.sizeOf29
  v75 := Tryd.zeroValue29
  t164 := Tryd.underlying112
  a164 := Tryd.isAgg112
  z164 := Tryd.sizeOf112
  v164 := Tryd.zeroValue112 }
theorem Tryd.BuilderS_Extra_166 : Builder.Extra Tryd.prog Tryd.laysS166_ren := {
  sizeBuilder := by kernel_rfl
  liesBuilder := by kernel_rfl
  t5 := Tryd.underlying5
  a5 := Tryd.isAgg5
  z5 := Tryd.sizeOf5
  v5 := Tryd.zeroValue5
  infoByte := by kernel_rfl
  cellsByte := by kernel_rfl
  sizeByte := by kernel_rfl
  neB5 := by decide }
open Go.RowKit in
theorem Tryd.BuilderS_WriteString (B b : Nat) (bs : List Value) (s : ByteArray) (w : World) (h : Lib.IsBuilder 83 5 B b bs w) (hlen : bs.length + s.size ≤ 140737488355328) (hBw : B ≤ w.heap.size) :
    Calls Tryd.prog 39 #[.pointer (some ⟨b, 0, none⟩), .string s] w fun e w' => e = .returned (.tuple #[.int .i64 s.size, .nilIface]) ∧ (Lib.BuilderAt 83 5 B b (.pointer (some ⟨b, 0, none⟩)) (bs ++ Lib.strCells s) w' ∧ Below B w w') := Any.Builder_WriteString Tryd.laysS166 Tryd.BuilderS_Extra_166 B b bs s w h hlen hBw
def Tryd.laysS170_ren : Go.Shelf.Ren := ⟨fun | 170 => 38 | n => n, fun | 0 => 0 | 3 => 3 | 37 => 54 | 70 => 81 | 72 => 83 | 5 => 5 | n => n, fun | n => n⟩
theorem Tryd.laysS170 : Go.Proofs.Lays.n170 Tryd.prog Tryd.laysS170_ren := {
  mixed := by kernel_rfl
  f170 := Tryd.func38.trans (congrArg some (by kernel_rfl))
  t0 := Tryd.underlying0
  a0 := Tryd.isAgg0
  z0 := Tryd.sizeOf0
  v0 := Tryd.zeroValue0
  t3 := Tryd.underlying3
  a3 := Tryd.isAgg3
  z3 := Tryd.sizeOf3
  v3 := Tryd.zeroValue3
  t37 := Tryd.underlying54
  a37 := Tryd.isAgg54
  z37 := Tryd.sizeOf54
  v37 := Tryd.zeroValue54
  t70 := Tryd.underlying81
  a70 := Tryd.isAgg81
  z70 := Tryd.sizeOf81
  v70 := Tryd.zeroValue81
  t72 := Tryd.underlying83
  a72 := Tryd.isAgg83
  z72 := Tryd.sizeOf83
  v72 := Tryd.zeroValue83 }
open Go.RowKit in
theorem Tryd.BuilderS_Len (B b : Nat) (bs : List Value) (w : World) (h : Lib.IsBuilder 83 5 B b bs w) :
    Calls Tryd.prog 38 #[.pointer (some ⟨b, 0, none⟩)] w fun e w' => e = .returned (.int .i64 bs.length) ∧ w' = w := Any.Builder_Len Tryd.laysS170 B b bs w h
def Tryd.laysS169_ren : Go.Shelf.Ren := ⟨fun | 169 => 41 | n => n, fun | 0 => 0 | 3 => 3 | 9 => 9 | 37 => 54 | 70 => 81 | 72 => 83 | 127 => 104 | 5 => 5 | n => n, fun | n => n⟩
theorem Tryd.laysS169 : Go.Proofs.Lays.n169 Tryd.prog Tryd.laysS169_ren := {
  mixed := by kernel_rfl
  f169 := Tryd.func41.trans (congrArg some (by kernel_rfl))
  t0 := Tryd.underlying0
  a0 := Tryd.isAgg0
  z0 := Tryd.sizeOf0
  v0 := Tryd.zeroValue0
  t3 := Tryd.underlying3
  a3 := Tryd.isAgg3
  z3 := Tryd.sizeOf3
  v3 := Tryd.zeroValue3
  t9 := Tryd.underlying9
  a9 := Tryd.isAgg9
  z9 := Tryd.sizeOf9
  v9 := Tryd.zeroValue9
  t37 := Tryd.underlying54
  a37 := Tryd.isAgg54
  z37 := Tryd.sizeOf54
  v37 := Tryd.zeroValue54
  t70 := Tryd.underlying81
  a70 := Tryd.isAgg81
  z70 := Tryd.sizeOf81
  v70 := Tryd.zeroValue81
  t72 := Tryd.underlying83
  a72 := Tryd.isAgg83
  z72 := Tryd.sizeOf83
  v72 := Tryd.zeroValue83
  t127 := Tryd.underlying104
  a127 := Tryd.isAgg104
  z127 := Tryd.sizeOf104
  v127 := Tryd.zeroValue104 }
theorem Tryd.BuilderS_Extra_169 : Builder.Extra Tryd.prog Tryd.laysS169_ren := {
  sizeBuilder := by kernel_rfl
  liesBuilder := by kernel_rfl
  t5 := Tryd.underlying5
  a5 := Tryd.isAgg5
  z5 := Tryd.sizeOf5
  v5 := Tryd.zeroValue5
  infoByte := by kernel_rfl
  cellsByte := by kernel_rfl
  sizeByte := by kernel_rfl
  neB5 := by decide }
open Go.RowKit in
theorem Tryd.BuilderS_String (B b : Nat) (l : List UInt8) (w : World) (h : Lib.IsBuilder 83 5 B b (Lib.byteCells l) w) (hBw : B ≤ w.heap.size) :
    Calls Tryd.prog 41 #[.pointer (some ⟨b, 0, none⟩)] w fun e w' => e = .returned (.string ⟨l.toArray⟩) ∧ Below B w w' := Any.Builder_String_any Tryd.laysS169 Tryd.BuilderS_Extra_169 B b l w h hBw
end Go.Proofs.YtajkldmpllphjaaDoor
