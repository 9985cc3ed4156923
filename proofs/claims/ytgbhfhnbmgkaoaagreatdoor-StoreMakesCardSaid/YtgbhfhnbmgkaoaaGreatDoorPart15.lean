/-
  Texts of one claim, merged.
  StoreAwake: The example of chapter 16, as its laws ask it, out of the program's contracts. No conditions but those typed.
  StorePut: Plain mathematics of chapter 16: the document's loop puts a row in its place, where the rows rise. No program is run here.
  StoreShort: What is applied and swept stays short. No program is run here.
-/
import Derived.Test.YtgbhfhnbmgkaoaaGreatDoorPart14
import Derived.Test.YtgbhfhnbmgkaoaaGreatDoorPart11
namespace Go.Proofs.YtgbhfhnbmgkaoaaGreatDoor
open Go.RowKit TextNat RegMath

set_option maxRecDepth 100000 in
theorem write16 (s k v : ByteArray) (t : Int) (w : World) : Calls Tryz.prog 15 #[.string s, .string k, .string v, .int .i64 t] w fun e w' => e = .returned (wrV s k v t false).val ∧ Below w.heap.size w w' := by
  go_enter Tryz.func15, Tryz.ntmps15
  go_wp2_with fail
  have HF := Lies.new w (wrV s k v t false).cells 28
  refine bodyPost_ret (results_cell_row Tryz.results15 _ _ w.heap.size 28 _ (0, 0) _ rfl HF Tryz.underlying28 rfl (by kernel_rfl)) rfl ?_
  exact ⟨rfl, (Below.refl _ _).alloc (Nat.le_refl _) _⟩
/-- A store of one's own, and all that was before it as it was. -/
def OwnSto (D : Sto) (w0 w : World) (b : Nat) (xs : List RowV) : Prop := (∃ S, D.at_ w b S xs ∧ ∀ k, S k → w0.heap.size ≤ k) ∧ Below w0.heap.size w0 w
theorem OwnSto.below {D : Sto} {w0 w w' : World} {b : Nat} {xs : List RowV} (h : OwnSto D w0 w b xs) (hb : Below w.heap.size w w') : OwnSto D w0 w' b xs := by
  obtain ⟨⟨S, h1, h2⟩, h3⟩ := h
  exact ⟨⟨S, D.stays h1 hb.size fun k hk => hb.block k (D.lt h1 k hk), h2⟩, h3.trans (hb.mono h3.size)⟩
theorem new_own {D : Sto} (hP : Store16 D) (w : World) : Calls Tryz.prog 14 #[] w fun e w' => ∃ b, e = .returned (ptr16 b) ∧ OwnSto D w w' b [] := by
  refine (hP.new w).mono ?_
  rintro e w' ⟨⟨b, S, rfl, h1, h2⟩, h3⟩
  exact ⟨b, rfl, ⟨S, h1, h2⟩, h3⟩
theorem apply_own {D : Sto} (hP : Store16 D) {w0 w : World} {b : Nat} {xs : List RowV} (h : OwnSto D w0 w b xs) (hs : Short xs) (hn : xs.length ≤ 900) (y : WriteV) (hy : y.short w) :
    Calls Tryz.prog 12 #[ptr16 b, y.val] w fun e w' => e = .returned (.bool (applyV xs y).2) ∧ OwnSto D w0 w' b (applyV xs y).1 := by
  obtain ⟨⟨S, h1, h2⟩, h3⟩ := h
  refine (hP.apply b S xs y w h1 hs hn hy).mono ?_
  rintro e w' ⟨rfl, ⟨S', h4, h5⟩, h6⟩
  refine ⟨rfl, ⟨S', h4, fun k hk => ?_⟩, ⟨h6.os.trans h3.os, h6.tape.trans h3.tape, h6.output.trans h3.output, Nat.le_trans h3.size h6.size, fun k hk => ?_⟩⟩
  · rcases h5 k hk with e | e
    · exact h2 k e
    · exact Nat.le_trans h3.size e
  · refine (h6.block k (Nat.lt_of_lt_of_le hk h3.size) fun e => ?_).trans (h3.block k hk)
    have := h2 k e
    omega
theorem wr_short (s k v : ByteArray) (t : Int) (g : Bool) (w : World) (h1 : s.size ≤ 1000) (h2 : k.size ≤ 1000) (h3 : v.size ≤ 1000) : (wrV s k v t g).short w := ⟨fun i x h => by simp [wrV] at h, h1, h2, h3⟩
theorem get_own {D : Sto} (hP : Store16 D) {w0 w : World} {b : Nat} {xs : List RowV} (h : OwnSto D w0 w b xs) (hs : Short xs) (s k : ByteArray) (h1 : s.size ≤ 1000) (h2 : k.size ≤ 1000) :
    Calls Tryz.prog 16 #[ptr16 b, .string s, .string k] w fun e w' => GetSays w' (gotV xs s k) e ∧ OwnSto D w0 w' b xs := by
  obtain ⟨⟨S, h3, h4⟩, h5⟩ := h
  refine (hP.get b S xs s k w h3 hs h1 h2).mono ?_
  rintro e w' ⟨h6, h7⟩
  exact ⟨h6, OwnSto.below ⟨⟨S, h3, h4⟩, h5⟩ h7⟩
set_option maxRecDepth 100000 in
set_option maxHeartbeats 4000000 in
theorem awake16 (D : Sto) (hP : Store16 D) (w : World) : Calls Tryz.prog 4 #[] w fun e w' => e = .returned (.bool true) ∧ Below w.heap.size w w' := by
  have HP := Lib.hid hP
  clear hP
  go_enter Tryz.func4, Tryz.ntmps4
  go_wp2_with fail
  refine (new_own HP.out _).mono ?_
  rintro e w1 ⟨b, rfl, h⟩
  have H1 := Lib.hid h
  clear h
  go_wp2_with fail
  refine (write16 _ _ _ _ _).mono ?_
  rintro e w2 ⟨rfl, hb⟩
  have H2 := Lib.hid (H1.out.below hb)
  clear hb
  go_wp2_with fail
  have hq := apply_own HP.out H2.out ex_short0 (by decide) (wrV t11 ⟨#[]⟩ tann 1 false) (wr_short _ _ _ _ _ _ (by decide) (by decide) (by decide))
  rw [ex_apply1] at hq
  refine hq.mono ?_
  clear hq
  rintro e w3 ⟨rfl, h⟩
  have H3 := Lib.hid h
  clear h
  go_wp2_with fail
  refine (write16 _ _ _ _ _).mono ?_
  rintro e w4 ⟨rfl, hb⟩
  have H4 := Lib.hid (H3.out.below hb)
  clear hb
  go_wp2_with fail
  have hq := apply_own HP.out H4.out ex_short1 (by decide) (wrV t11 ⟨#[97]⟩ ⟨#[120]⟩ 2 false) (wr_short _ _ _ _ _ _ (by decide) (by decide) (by decide))
  rw [ex_apply2] at hq
  refine hq.mono ?_
  clear hq
  rintro e w5 ⟨rfl, h⟩
  have H5 := Lib.hid h
  clear h
  go_wp2_with fail
  have hq := get_own HP.out H5.out ex_short2 t11 ⟨#[97]⟩ (by decide) (by decide)
  rw [ex_got2] at hq
  refine hq.mono ?_
  clear hq
  rintro e w6 ⟨rfl, h⟩
  have H6 := Lib.hid h
  clear h
  go_wp2_with fail
  refine (write16 _ _ _ _ _).mono ?_
  rintro e w7 ⟨rfl, hb⟩
  have HBq := Lib.hid hb
  clear hb
  simp only [wrV, WriteV.val]
  go_wp2_with fail
  have H8 := Lib.hid ((H6.out.below HBq.out).below ((Below.refl w7.heap.size w7).alloc (Nat.le_refl _) (.cells (wrV t11 ⟨#[]⟩ ⟨#[]⟩ 3 true).cells.toArray 28)))
  have hq := apply_own HP.out H8.out ex_short2 (by decide) (wrV t11 ⟨#[]⟩ ⟨#[]⟩ 3 true) (wr_short _ _ _ _ _ _ (by decide) (by decide) (by decide))
  rw [ex_apply3] at hq
  refine hq.mono ?_
  clear hq
  rintro e w9 ⟨rfl, h⟩
  have H9 := Lib.hid h
  clear h
  go_wp2_with fail
  have hq := get_own HP.out H9.out ex_short3 t11 ⟨#[97]⟩ (by decide) (by decide)
  rw [ex_got3] at hq
  refine hq.mono ?_
  clear hq
  rintro e w10 ⟨⟨x, rfl, hx⟩, h⟩
  have HB := Lib.hid h.2
  have HE := Lib.hid (is_err hx 14)
  obtain ⟨T, y, rfl⟩ := hx.iface
  clear h hx
  go_wp2_with fail
  refine HE.out.mono ?_
  rintro e w11 ⟨rfl, rfl⟩
  go_wp2
  go_ret
  exact ⟨rfl, HB.out⟩
end Go.Proofs.YtgbhfhnbmgkaoaaGreatDoor
namespace Go.Proofs.YtgbhfhnbmgkaoaaGreatDoor
open TextNat RegMath StoreMath

theorem out_done (x : RowV) (a : Int) : ∀ (L : List RowV) (i : Nat), (a < (i : Int)) → outV x a L i true = L
  | [], _, _ => rfl
  | r :: L, i, h => by
    rw [outV, if_neg (by omega), if_neg (by simp), out_done x a L (i + 1) (by omega)]
/-- No row of the key there: the row goes ahead of the first one that it is below. -/
theorem out_new (x : RowV) : ∀ (L : List RowV) (i : Nat), (∀ r ∈ L, r.r.k ≠ x.r.k) → (outV x (-1) L i false).map RowV.r = put (L.map RowV.r) x.r.k x.r.c
  | [], _, _ => rfl
  | r :: L, i, h => by
    rw [outV, if_neg (by omega), List.map_cons, put, if_neg (h r (by simp))]
    by_cases hk : klt x.r.k r.r.k = true
    · rw [if_pos (by simpa using hk), if_pos hk, out_done x (-1) L (i + 1) (by omega)]
      rfl
    · rw [if_neg (by simpa using hk), if_neg hk, List.map_cons, out_new x L (i + 1) (fun y hy => h y (by simp [hy]))]
/-- A row of the key at a place of rising rows: it is taken in its place. -/
theorem out_old (x : RowV) : ∀ (L : List RowV) (i j : Nat) (y : RowV), Rising (L.map RowV.r) → L[j]? = some y → y.r.k = x.r.k → (outV x ((i + j : Nat) : Int) L i false).map RowV.r = put (L.map RowV.r) x.r.k x.r.c
  | [], _, _, _, _, h, _ => by simp at h
  | r :: L, i, 0, y, hr, h, hk => by
    obtain rfl : r = y := by simpa using h
    rw [outV, if_pos (by simp), List.map_cons, List.map_cons, put, if_pos hk, out_done _ _ _ _ (by omega)]
  | r :: L, i, j + 1, y, hr, h, hk => by
    obtain ⟨h1, h2⟩ := List.pairwise_cons.1 (show ((r.r :: L.map RowV.r)).Pairwise _ from hr)
    have hy : L[j]? = some y := by simpa using h
    have hlt : klt r.r.k x.r.k = true := by
      rw [← hk]
      exact h1 y.r (List.mem_map_of_mem (List.mem_of_getElem? hy))
    have hne := klt_ne hlt
    have hno : klt x.r.k r.r.k = false := strict_key.asym hlt
    rw [outV, if_neg (by omega), if_neg (by simp [hno]), List.map_cons, List.map_cons, put, if_neg hne, if_neg (by rw [hno]; decide)]
    congr 1
    have := out_old x L (i + 1) j y h2 hy hk
    rw [← this, show i + (j + 1) = i + 1 + j by omega]
theorem apply_stays {L : List Row} {w : Wr} (h : StoreMath.look L w.k = some (cellOf (StoreMath.look L w.k) w.c)) : StoreMath.apply L w = (L, false) := if_pos h
theorem apply_turns {L : List Row} {w : Wr} (h : ¬ StoreMath.look L w.k = some (cellOf (StoreMath.look L w.k) w.c)) : StoreMath.apply L w = (put L w.k (cellOf (StoreMath.look L w.k) w.c), true) := if_neg h
/-- What the document's Apply makes is what the rows' mathematics says. -/
theorem apply_v (xs : List RowV) (x : WriteV) (h : Rising (xs.map RowV.r)) : StoreMath.apply (xs.map RowV.r) ⟨(nats x.session, nats x.key), (cellW x).c⟩ = ((applyV xs x).1.map RowV.r, (applyV xs x).2) := by
  have hc : ∀ d : RegV, merge [d.c, (cellW x).c] = (mergeV [d, cellW x]).c := fun d => (mergeV_c (l := [d, cellW x]) (by simp)).symm
  have hl := look_v xs x.session x.key
  cases hi : idxV xs x.session x.key with
  | none =>
    have hv : lookV xs x.session x.key = none := by unfold lookV; rw [hi]; rfl
    rw [hv] at hl
    have hl' : StoreMath.look (xs.map RowV.r) (nats x.session, nats x.key) = none := hl
    rw [apply_turns (w := ⟨(nats x.session, nats x.key), (cellW x).c⟩) (by simp only; rw [hl']; simp)]
    simp only
    rw [hl']
    have h1 := out_new ⟨x.session, x.key, cellW x⟩ xs 0 (fun r hr e => by
      obtain ⟨j, hj⟩ := List.getElem?_of_mem hr
      unfold idxV at hi
      rw [List.findIdx?_eq_none_iff] at hi
      have h1 := of_decide_eq_false (hi r hr)
      have e' : (nats r.session, nats r.key) = (nats x.session, nats x.key) := e
      obtain ⟨e1, e2⟩ := Prod.mk.inj e'
      exact h1 ⟨by rw [← txt_nats r.session, e1, txt_nats], by rw [← txt_nats r.key, e2, txt_nats]⟩)
    have h2 : applyV xs x = (outV ⟨x.session, x.key, cellW x⟩ (-1) xs 0 false, true) := by
      unfold applyV sameC newC idxI
      rw [hv, hi]
      rfl
    rw [h2]
    simp only
    rw [h1]
    rfl
  | some i =>
    obtain ⟨y, hy, hs, hk⟩ := idx_lt hi
    have hv : lookV xs x.session x.key = some y.cell := by unfold lookV; rw [hi]; simp [hy]
    rw [hv] at hl
    have hl' : StoreMath.look (xs.map RowV.r) (nats x.session, nats x.key) = some y.cell.c := hl
    have hn : newC xs x = mergeV [y.cell, cellW x] := by unfold newC; rw [hv]
    have hco : cellOf (some y.cell.c) (cellW x).c = (mergeV [y.cell, cellW x]).c := hc y.cell
    by_cases he : mergeV [y.cell, cellW x] = y.cell
    · rw [apply_stays (w := ⟨(nats x.session, nats x.key), (cellW x).c⟩) (by simp only; rw [hl', hco, he])]
      have h2 : applyV xs x = (xs, false) := by
        unfold applyV sameC
        rw [hn, hv]
        simp only
        rw [if_pos (decide_eq_true he)]
      rw [h2]
    · rw [apply_turns (w := ⟨(nats x.session, nats x.key), (cellW x).c⟩) (by simp only; rw [hl', hco]; exact fun e => he (RegV.c_one (Option.some.inj e).symm))]
      simp only
      rw [hl', hco]
      have h1 := out_old ⟨x.session, x.key, mergeV [y.cell, cellW x]⟩ xs 0 i y h hy (by show (nats y.session, nats y.key) = (nats x.session, nats x.key); rw [hs, hk])
      rw [Nat.zero_add] at h1
      have h2 : applyV xs x = (outV ⟨x.session, x.key, mergeV [y.cell, cellW x]⟩ ((i : Nat) : Int) xs 0 false, true) := by
        unfold applyV sameC idxI
        rw [hn, hv, hi]
        simp only
        rw [if_neg (by rw [decide_eq_false he]; decide)]
      rw [h2]
      simp only
      rw [h1]
      rfl
end Go.Proofs.YtgbhfhnbmgkaoaaGreatDoor
namespace Go.Proofs.YtgbhfhnbmgkaoaaGreatDoor
open TextNat RegMath

theorem out_len (x : RowV) (a : Int) : ∀ (L : List RowV) (i : Nat) (d : Bool), (outV x a L i d).length ≤ L.length + (if d = true then 0 else 1)
  | [], _, d => by cases d <;> simp [outV]
  | r :: L, i, d => by
    rw [outV]
    split
    · have := out_len x a L (i + 1) true
      simp only [List.length_cons] at *
      cases d <;> simp_all <;> omega
    · split
      · rename_i h
        have hd : d = false := by cases d <;> simp_all
        subst hd
        have := out_len x a L (i + 1) true
        simp only [List.length_cons] at *
        simp_all
      · have := out_len x a L (i + 1) d
        simp only [List.length_cons] at *
        omega
theorem out_mem (x : RowV) (a : Int) : ∀ (L : List RowV) (i : Nat) (d : Bool) (r : RowV), r ∈ outV x a L i d → r = x ∨ r ∈ L
  | [], _, d, r, h => by
    cases d
    · simp only [outV] at h
      exact .inl (by simpa using h)
    · simp [outV] at h
  | y :: L, i, d, r, h => by
    rw [outV] at h
    split at h
    · rcases List.mem_cons.1 h with e | h
      · exact .inl e
      · rcases out_mem x a L _ _ r h with e | e
        · exact .inl e
        · exact .inr (List.mem_cons_of_mem _ e)
    · split at h
      · rcases List.mem_cons.1 h with e | h
        · exact .inl e
        · rcases List.mem_cons.1 h with e | h
          · exact .inr (by rw [e]; exact List.mem_cons_self)
          · rcases out_mem x a L _ _ r h with e | e
            · exact .inl e
            · exact .inr (List.mem_cons_of_mem _ e)
      · rcases List.mem_cons.1 h with e | h
        · exact .inr (by rw [e]; exact List.mem_cons_self)
        · rcases out_mem x a L _ _ r h with e | e
          · exact .inl e
          · exact .inr (List.mem_cons_of_mem _ e)
theorem new_short {xs : List RowV} (h : Short xs) (y : WriteV) (hy : y.value.size ≤ 1000) : (newC xs y).value.size ≤ 1000 := by
  unfold newC
  cases hl : lookV xs y.session y.key with
  | none => exact hy
  | some d =>
    have hm : mergeV [d, cellW y] ∈ [d, cellW y] := mergeV_mem (by simp)
    have hd : d.value.size ≤ 1000 := by
      unfold lookV at hl
      cases hi : idxV xs y.session y.key with
      | none => rw [hi] at hl; simp at hl
      | some i =>
        rw [hi] at hl
        obtain ⟨z, hz, _, _⟩ := idx_lt hi
        have e : z.cell = d := by simpa [hz] using hl
        rw [← e]
        exact (h.texts z (List.mem_of_getElem? hz)).2.2
    rcases List.mem_cons.1 hm with e | hm
    · simp only
      rw [e]
      exact hd
    · simp only
      rw [List.mem_singleton.1 hm]
      exact hy
theorem apply_len (xs : List RowV) (y : WriteV) : (applyV xs y).1.length ≤ xs.length + 1 := by
  unfold applyV
  split
  · simp
  · have := out_len ⟨y.session, y.key, newC xs y⟩ (idxI xs y.session y.key) xs 0 false
    simpa using this
/-- What a short write makes of short rows is short. -/
theorem short_apply {xs : List RowV} (h : Short xs) (hn : xs.length ≤ 999) (y : WriteV) (hy : y.session.size ≤ 1000 ∧ y.key.size ≤ 1000 ∧ y.value.size ≤ 1000) : Short (applyV xs y).1 := by
  refine ⟨?_, Nat.le_trans (apply_len xs y) (by omega), fun r hr => ?_⟩
  · have h1 := congrArg Prod.fst (apply_v xs y h.rises)
    simp only at h1
    rw [← h1]
    exact StoreMath.rising_apply _ h.rises
  · unfold applyV at hr
    split at hr
    · exact h.texts r hr
    · rcases out_mem _ _ _ _ _ r hr with e | e
      · rw [e]
        exact ⟨hy.1, hy.2.1, new_short h y hy.2.2⟩
      · exact h.texts r e
theorem short_filter {xs : List RowV} (h : Short xs) (p : RowV → Bool) : Short (xs.filter p) :=
  ⟨by
    have h1 := h.rises
    unfold StoreMath.Rising at h1 ⊢
    rw [List.pairwise_map] at h1 ⊢
    exact List.Pairwise.filter p h1, Nat.le_trans (List.length_filter_le _ _) h.few, fun r hr => h.texts r (List.mem_filter.1 hr).1⟩
/-- What all writes make of the rows. -/
def afterV (xs : List RowV) (ys : List WriteV) : List RowV := ys.foldl (fun xs y => (applyV xs y).1) xs
theorem short_after {ys : List WriteV} (hy : ∀ y ∈ ys, y.session.size ≤ 1000 ∧ y.key.size ≤ 1000 ∧ y.value.size ≤ 1000) : ∀ {xs : List RowV}, Short xs → xs.length + ys.length ≤ 1000 → Short (afterV xs ys) ∧ (afterV xs ys).length ≤ xs.length + ys.length := by
  induction ys with
  | nil => exact fun h _ => ⟨h, Nat.le_refl _⟩
  | cons y ys ih =>
    intro xs h hn
    simp only [List.length_cons] at hn
    have h1 := short_apply h (by omega) y (hy y List.mem_cons_self)
    have h2 := apply_len xs y
    obtain ⟨h3, h4⟩ := ih (fun z hz => hy z (List.mem_cons_of_mem _ hz)) h1 (by omega)
    exact ⟨h3, by simp only [List.length_cons]; exact Nat.le_trans h4 (by omega)⟩
theorem after_v (ys : List WriteV) : ∀ {xs : List RowV}, StoreMath.Rising (xs.map RowV.r) → (afterV xs ys).map RowV.r = StoreMath.after (xs.map RowV.r) (ys.map fun y => ⟨(nats y.session, nats y.key), (cellW y).c⟩) := by
  induction ys with
  | nil => exact fun _ => rfl
  | cons y ys ih =>
    intro xs h
    have h1 := congrArg Prod.fst (apply_v xs y h)
    simp only at h1
    have h2 : StoreMath.Rising ((applyV xs y).1.map RowV.r) := by rw [← h1]; exact StoreMath.rising_apply _ h
    have := ih h2
    rw [← h1] at this
    exact this
end Go.Proofs.YtgbhfhnbmgkaoaaGreatDoor
