/-
  Texts of one claim, merged.
  RefWritten: The contract of the document's own Written of chapter 5: things' bytes one behind the other, or the first fault with its place. The conditions: a row of things in one block from its first cell on, at most 1,000; what Bytes asks of each.
  ItemCells: Things as cells; what is written, as a text. No program is run here.
  RefWriteBytes: The contract of the document's own WriteBytes of chapter 5: what is written of a write's nine things. The conditions: the vector's cells; three texts of at most 100,000 bytes, a vector of at most 1,000,000.
-/
import Derived.Test.YtajhegjemhegiaaGreatDoorPart22
import Derived.Lib.AppendStr
import Derived.Test.YtajhegjemhegiaaGreatDoorPart17
namespace Go.Proofs.YtajhegjemhegiaaGreatDoor
open Go.RowKit TextNat

/-- Things in a row from a block's first cell on: five cells each, their vectors in memory. -/
def ItemsAt (w : World) (b : Nat) (xs : List Item) : Prop := ∀ (i : Nat) (x : Item), xs[i]? = some x →
  w.cell? ⟨b, i * 5, none⟩ = some (.int .i64 x.k) ∧ w.cell? ⟨b, i * 5 + 1, none⟩ = some (.int .i64 x.n) ∧ w.cell? ⟨b, i * 5 + 2, none⟩ = some (.string x.s) ∧ w.cell? ⟨b, i * 5 + 3, none⟩ = some (.bool x.b) ∧
  w.cell? ⟨b, i * 5 + 4, none⟩ = some (.slice x.vp x.vl.length x.vc) ∧ Ints w x.vp x.vl
theorem ItemsAt.grown {w w' : World} {b : Nat} {xs : List Item} (h : ItemsAt w b xs) (hlt : b < w.heap.size) (hb : Below w.heap.size w w') : ItemsAt w' b xs := fun i x hx => by
  obtain ⟨h0, h1, h2, h3, h4, h5⟩ := h i x hx
  exact ⟨(hb.cell (p := ⟨b, _, none⟩) hlt).trans h0, (hb.cell (p := ⟨b, _, none⟩) hlt).trans h1, (hb.cell (p := ⟨b, _, none⟩) hlt).trans h2, (hb.cell (p := ⟨b, _, none⟩) hlt).trans h3, (hb.cell (p := ⟨b, _, none⟩) hlt).trans h4, h5.grown hb⟩
/-- One more thing after things that could all be put. -/
theorem written_take {xs : List Item} {i : Nat} {x : Item} (h : xs[i]? = some x) (D : List Nat) (hD : WireMath.written ((xs.take i).map Item.thing) = ⟨D, none⟩) :
    WireMath.written ((xs.take (i + 1)).map Item.thing) = WireMath.put ⟨D, none⟩ x.thing := by
  unfold WireMath.written at *
  rw [List.take_add_one, h]
  simp only [Option.toList, List.map_append, List.map_cons, List.map_nil, List.foldl_append, List.foldl_cons, List.foldl_nil, hD]
/-- A fault, once found, stays. -/
theorem written_stays {xs : List Item} {i : Nat} {D : List Nat} {q : Nat × Nat} (h : WireMath.written ((xs.take i).map Item.thing) = ⟨D, some q⟩) : WireMath.written (xs.map Item.thing) = ⟨D, some q⟩ := by
  have e : xs.map Item.thing = (xs.take i).map Item.thing ++ (xs.drop i).map Item.thing := by rw [← List.map_append, List.take_append_drop]
  unfold WireMath.written at *
  rw [e, List.foldl_append, h]
  exact WireMath.put_stays _ q rfl _

theorem ownsRow_shape {w : World} {base : Nat} {e : TypeId} {v : Value} {n : Nat} {xs : List Value} (h : w.ownsRow base e 1 v n xs) : ∃ p c, v = .slice p n c := by
  rcases h.2 with ⟨h, h0⟩ | ⟨g, cap, cur, h, _⟩
  · exact ⟨none, 0, by rw [h, h0]⟩
  · exact ⟨_, cap, h⟩
theorem ownsRow_keeps {w w' : World} {base k : Nat} {e : TypeId} {v : Value} {n : Nat} {xs : List Value} (h : w.ownsRow base e k v n xs) (hb : Below w.heap.size w w') : w'.ownsRow base e k v n xs := by
  refine ⟨h.1, h.2.imp id ?_⟩
  rintro ⟨g, cap, cur, h1, h2, h3, h4⟩
  exact ⟨g, cap, cur, h1, h2, (hb.block g (Array.getElem?_eq_some_iff.1 h3).1).trans h3, h4⟩
theorem strCells_txt (L : List Nat) : Lib.strCells (txt L) = L.map fun b => Value.int .u8 ((UInt8.ofNat b).toNat : Int) := by simp [Lib.strCells, txt]
theorem strCells_more (L l : List Nat) : Lib.strCells (txt L) ++ Lib.strCells (txt l) = Lib.strCells (txt (L ++ l)) := by rw [strCells_txt, strCells_txt, strCells_txt, List.map_append]
theorem text_own {w : World} {base g cap : Nat} {e : TypeId} {L : List Nat} (h : w.ownsRow base e 1 (.slice (some ⟨g, 0, none⟩) L.length cap) L.length (Lib.strCells (txt L))) :
    (convert 99 9 (.slice (some ⟨g, 0, none⟩) L.length cap)).run Tryz.prog w = .ok (.string (txt L)) w := by
  have h2 := run_convert_bytes_back (P := Tryz.prog) w 99 9 5 ⟨g, 0, none⟩ cap (L.map UInt8.ofNat) Tryz.underlying99 Tryz.underlying5 Tryz.underlying9 (fun j hj => by
    have hj' : j < L.length := by simpa using hj
    rw [WideShapes.add_plain, Nat.zero_add, h.cellAt j (by omega), strCells_txt, List.getElem?_map, List.getElem?_eq_getElem hj']
    simp)
  rw [List.length_map] at h2
  exact h2
def putValue (p : WireMath.Put) : Value := match p.bad with
  | none => .tuple #[.string (txt p.out), .int .i64 0, .int .i64 0]
  | some (c, at') => .tuple #[.string ⟨#[]⟩, .int .i64 (c : Int), .int .i64 (at' : Int)]

set_option maxRecDepth 100000 in
set_option maxHeartbeats 4000000 in
theorem refWritten (xs : List Item) (b : Nat) (cap : Nat) (w : World) (hI : ItemsAt w b xs) (hlt : b < w.heap.size) (hs : ∀ x ∈ xs, x.s.size ≤ 100000 ∧ x.vl.length ≤ 1000000) (hl : xs.length ≤ 1000) :
    Calls Tryz.prog 48 #[.slice (some ⟨b, 0, none⟩) xs.length cap] w fun e w' => e = .returned (putValue (WireMath.written (xs.map Item.thing))) ∧ Below w.heap.size w w' := by
  obtain ⟨ib, hib, hz0, hz1, hz2⟩ := info_parts info_byte
  obtain ⟨N, hN⟩ : ∃ N, N = xs.length := ⟨_, rfl⟩
  have hlN : N ≤ 1000 := by omega
  rw [← hN]
  have HI := Lib.hid hI
  have HS := Lib.hid hs
  clear hI hs
  go_enter Tryz.func48, Tryz.ntmps48
  go_wp2_with fail
  have HNN := Lib.hid hN
  clear hN
  go_loopg [5, 6] N (fun gh s5 s6 wx => ∃ (i : Nat) (L : List Nat), i + gh = N ∧ s6 = .int .i64 (i : Int) ∧ L.length ≤ 65536 ∧ Hid (wx.ownsRow w.heap.size 5 1 s5 L.length (Lib.strCells (txt L))) ∧ Hid (s5 ≠ .slice none 0 0) ∧ Hid (WireMath.written ((xs.take i).map Item.thing) = ⟨L, none⟩) ∧ Below w.heap.size w wx)
  case atStart => exact ⟨0, [], by omega, by go_num, by simp, Lib.hid (World.ownsRow_made w #[] 0 (Nat.le_refl _) (by unfold maxLen; omega) rfl), Lib.hid (by intro h; cases h), Lib.hid rfl, (Below.refl _ _).alloc (Nat.le_refl _) _⟩
  case round =>
    obtain ⟨i, L, hi, rfl, hL, HO, HNe, HWr, hbr⟩ := hrel
    have HB := Lib.hid hbr
    obtain ⟨p5, c5, rfl⟩ := ownsRow_shape HO.out
    by_cases hiN : i < N
    · have t2 : decide ((i : Int) < (N : Int)) = true := decide_eq_true (by omega)
      have t2' : decide (i < N) = true := decide_eq_true hiN
      obtain ⟨x, hx⟩ : ∃ x, xs[i]? = some x := ⟨_, List.getElem?_eq_getElem (by rw [← HNN.out]; exact hiN)⟩
      obtain ⟨c0, c1, c2, c3, c4, hv⟩ := (HI.out.grown hlt hbr) i x hx
      have hsx := HS.out x (List.mem_of_getElem? hx)
      have HBy := refBytes x wr hv hsx.1 hsx.2
      have HX := written_take hx L HWr.out
      have hbv : x.val = .agg #[.int .i64 x.k, .int .i64 x.n, .string x.s, .bool x.b, .slice x.vp x.vl.length x.vc] := rfl
      rw [hbv] at HBy
      obtain ⟨o, ho⟩ : ∃ o, o = WireMath.bytes x.thing := ⟨_, rfl⟩
      rw [← ho] at HBy
      have HBy := Lib.hid HBy
      have HX := Lib.hid HX
      clear hbr hv hsx hbv
      obtain ⟨k, n, s, fb, vp, vl, vc⟩ := x
      simp only at c0 c1 c2 c3 c4 HBy
      cases o with
      | none =>
        rw [bytesValue_none] at HBy
        have HW := Lib.hid (show WireMath.written (xs.map Item.thing) = ⟨L, some (1, L.length)⟩ from written_stays (i := i + 1) (by rw [HX.out]; unfold WireMath.put; simp only [← ho]))
        clear ho HX hx
        go_wp2_with fail
        refine HBy.out.mono ?_
        rintro e w2 ⟨rfl, hb2⟩
        go_wp2_with fail
        go_ret3
        rw [HW.out]
        exact ⟨rfl, HB.out.trans (hb2.mono HB.out.size)⟩
      | some l =>
        rw [bytesValue_some] at HBy
        obtain ⟨T, hT⟩ : ∃ T, T = txt l := ⟨_, rfl⟩
        have hTs : T.size = l.length := by rw [hT, txt_len]
        rw [← hT] at HBy
        by_cases hbig : 65536 < L.length + l.length
        · have HW := Lib.hid (show WireMath.written (xs.map Item.thing) = ⟨L, some (3, L.length)⟩ from written_stays (i := i + 1) (by rw [HX.out]; unfold WireMath.put; simp only [← ho, if_pos hbig]))
          have t3 : decide ((65536 : Int) - (L.length : Int) < (l.length : Int)) = true := decide_eq_true (by omega)
          clear ho HX hx hT
          go_wp2_with fail
          refine HBy.out.mono ?_
          rintro e w2 ⟨rfl, hb2⟩
          go_wp2_with fail
          go_ret3
          rw [HW.out]
          exact ⟨rfl, HB.out.trans (hb2.mono HB.out.size)⟩
        · have HW := Lib.hid (show WireMath.written ((xs.take (i + 1)).map Item.thing) = ⟨L ++ l, none⟩ by rw [HX.out]; unfold WireMath.put; simp only [← ho, if_neg hbig])
          have t3 : decide ((65536 : Int) - (L.length : Int) < (l.length : Int)) = false := decide_eq_false (by omega)
          have HT := Lib.hid hT
          have HLl := Lib.hid (show (L ++ l).length ≤ 65536 by rw [List.length_append]; omega)
          have HTs := Lib.hid hTs
          have HE := Lib.hid (strCells_more L l)
          rw [← hT] at HE
          clear ho HX hx hT
          go_wp2_with fail
          refine HBy.out.mono ?_
          rintro e w2 ⟨rfl, hb2⟩
          have hO2 := ownsRow_keeps HO.out hb2
          have hB2 : Below w.heap.size w w2 := HB.out.trans (hb2.mono HB.out.size)
          go_wp2_with (at_builtin; refine Lib.wpList_append_own_string _ rfl _ _ 99 9 rfl w.heap.size 5 ib Tryz.underlying99 Tryz.underlying9 hib hz0 hz1 hz2 _ _ _ rfl hO2 T rfl (by unfold maxLen; omega) (by omega) hB2.size ?_; intro v3 w3 hown3 hgrow3 hnil3)
          go_roundg (N - (i + 1))
          case measure => omega
          case rel => exact ⟨i + 1, L ++ l, by omega, by go_num, HLl.out, Lib.hid (by rw [← HE.out, List.length_append, ← HTs.out]; exact hown3), Lib.hid (fun h => HNe.out (hnil3.1 h).1), HW, hB2.grown hgrow3 hB2.size (fun k hk => (hO2.lt k hk).1)⟩
    · obtain rfl : i = N := by omega
      have t2' : decide (i < i) = false := decide_eq_false (by omega)
      have HW := Lib.hid (show WireMath.written (xs.map Item.thing) = ⟨L, none⟩ by rw [← HWr.out, HNN.out, List.take_length])
      obtain ⟨g, hg⟩ : ∃ g, p5 = some ⟨g, 0, none⟩ := by
        rcases HO.out.2 with ⟨h, _⟩ | ⟨g, cap', cur, h, _⟩
        · exact absurd h HNe.out
        · cases h
          exact ⟨g, rfl⟩
      subst hg
      have hcv := text_own HO.out
      clear hbr HWr
      go_wp2
      go_ret3
      rw [HW.out]
      exact ⟨rfl, HB.out⟩
end Go.Proofs.YtajhegjemhegiaaGreatDoor
namespace Go.Proofs.YtajhegjemhegiaaGreatDoor
open Go.RowKit TextNat

def Item.cells (x : Item) : List Value := [.int .i64 x.k, .int .i64 x.n, .string x.s, .bool x.b, .slice x.vp x.vl.length x.vc]
theorem cells_at {xs : List Item} : ∀ {i : Nat} {x : Item}, xs[i]? = some x → ∀ j, j < 5 → (xs.flatMap Item.cells)[i * 5 + j]? = x.cells[j]? := by
  induction xs with
  | nil => intro i x h; simp at h
  | cons y r ih =>
    intro i x h j hj
    have hy : y.cells.length = 5 := rfl
    rw [List.flatMap_cons]
    cases i with
    | zero =>
      obtain rfl : y = x := by simpa using h
      rw [List.getElem?_append_left (by omega), Nat.zero_mul, Nat.zero_add]
    | succ i =>
      rw [List.getElem?_append_right (by omega), show (i + 1) * 5 + j - y.cells.length = i * 5 + j by omega]
      exact ih (by simpa using h) j hj
theorem itemsAt_of {w : World} {b : Nat} {xs : List Item} {T : TypeId} (h : w.heap[b]? = some (.cells (xs.flatMap Item.cells).toArray T (0, 0))) (hv : ∀ x ∈ xs, Ints w x.vp x.vl) : ItemsAt w b xs := by
  intro i x hx
  have hc : ∀ j, j < 5 → w.cell? ⟨b, i * 5 + j, none⟩ = x.cells[j]? := fun j hj => by
    rw [cell_of_row w b _ _ T (0, 0) h, ← cells_at hx j hj]
    simp
  exact ⟨hc 0 (by omega), hc 1 (by omega), hc 2 (by omega), hc 3 (by omega), hc 4 (by omega), hv x (List.mem_of_getElem? hx)⟩
theorem heap_two (w : World) (a b : Obj) : ((w.alloc a).alloc b).heap[w.heap.size + 1]? = some b := by
  have h := heap_alloc_new (w.alloc a) b
  simpa using h
theorem below_two (w : World) (a b : Obj) : Below w.heap.size w ((w.alloc a).alloc b) := ((Below.refl _ _).alloc (Nat.le_refl _) _).alloc (by simp) _
theorem ints_none (w : World) : Ints w none [] := fun i z h => by simp at h

end Go.Proofs.YtajhegjemhegiaaGreatDoor
namespace Go.Proofs.YtajhegjemhegiaaGreatDoor
open Go.RowKit TextNat

def numItem (n : Int) : Item := ⟨0, n, ⟨#[]⟩, false, none, [], 0⟩
def textItem (s : ByteArray) : Item := ⟨1, 0, s, false, none, [], 0⟩
def flagItem (b : Bool) : Item := ⟨2, 0, ⟨#[]⟩, b, none, [], 0⟩
def vecItem (p : Option Addr) (l : List Int) (c : Nat) : Item := ⟨3, 0, ⟨#[]⟩, false, p, l, c⟩
/-- A write's things. -/
def WriteV.items (x : WriteV) : List Item := [numItem x.region, numItem x.number, numItem x.time, vecItem x.dp x.dl x.dc, textItem x.session, textItem x.key, flagItem x.gone, textItem x.value, numItem x.life]
/-- What is written, as a text; none where one thing can't be. -/
def putText (p : WireMath.Put) : ByteArray := match p.bad with
  | none => txt p.out
  | some _ => ⟨#[]⟩

end Go.Proofs.YtajhegjemhegiaaGreatDoor
