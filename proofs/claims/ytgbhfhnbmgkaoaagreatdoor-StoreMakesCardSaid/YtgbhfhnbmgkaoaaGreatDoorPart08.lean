/-
  Texts of one claim, merged.
  StoreRefX: The document's store behind a change: where its rows lie. No conditions but those typed.
  StoreRef2: The document's own Head and Get of chapter 16. The conditions: the rows lie in memory.
  StoreRef3: The document's own Get of chapter 16. The conditions: the rows lie in memory.
-/
import Derived.Test.YtgbhfhnbmgkaoaaGreatDoorPart07
import Derived.Test.YtgbhfhnbmgkaoaaGreatDoorPart06
namespace Go.Proofs.YtgbhfhnbmgkaoaaGreatDoor
open Go.RowKit TextNat RegMath

/-- The document's store behind a change: its rows are new, or lie where they lay. -/
def RefStoX (w0 w : World) (b : Nat) (xs ys : List RowV) : Prop := ∃ pp c, Lies w b [.slice pp ys.length c] 50 ∧ ys.length ≤ c ∧ c ≤ 9223372036854775807 ∧ RowsIn w pp ys ∧ ((∀ a, pp = some a → w0.heap.size ≤ a.block ∧ a.block < w.heap.size) ∨ ∃ c0, Lies w0 b [.slice pp xs.length c0] 50)
theorem RefStoX.sto {w0 w : World} {b : Nat} {xs ys : List RowV} (h : RefStoX w0 w b xs ys) : RefSto w b ys := by
  obtain ⟨pp, c, h1, h2, h3, h4, _⟩ := h
  exact ⟨pp, c, h1, h2, h3, h4⟩
theorem new_set {w W : World} {b G n c : Nat} {v : Value} {T : TypeId} {p : Option Addr} {A : List RowV} (h : OwnS T W G (.slice p n c) A) (hG : w.heap.size ≤ G) : ∀ a, p = some a → w.heap.size ≤ a.block ∧ a.block < (W.setCell ⟨b, 0, none⟩ v).heap.size := fun a ha => by
  subst ha
  have h1 := World.ownsRow.lt h a.block rfl
  exact ⟨Nat.le_trans hG h1.1, by simpa [World.setCell] using h1.2⟩
end Go.Proofs.YtgbhfhnbmgkaoaaGreatDoor
namespace Go.Proofs.YtgbhfhnbmgkaoaaGreatDoor
open Go.RowKit TextNat RegMath StoreMath

/-- Is a cell visible? -/
def visV (c : RegV) : Bool := decide (0 < c.time) && !c.gone
theorem visV_c (c : RegV) : visible c.c = visV c := by
  unfold visible visV RegV.c
  simp only
  rw [Bool.and_comm, show decide ((1 : Int) ≤ c.time) = decide (0 < c.time) from decide_eq_decide.2 (by omega)]
def lookV (xs : List RowV) (s k : ByteArray) : Option RegV := (idxV xs s k).bind fun i => xs[i]?.map RowV.cell
def headV (xs : List RowV) (s : ByteArray) : RegV := (lookV xs s ⟨#[]⟩).getD zeroR
theorem idx_lt {xs : List RowV} {s k : ByteArray} {i : Nat} (h : idxV xs s k = some i) : ∃ x, xs[i]? = some x ∧ x.session = s ∧ x.key = k := by
  unfold idxV at h
  rw [List.findIdx?_eq_some_iff_getElem] at h
  obtain ⟨h1, h2, _⟩ := h
  exact ⟨_, List.getElem?_eq_getElem h1, (of_decide_eq_true h2).1, (of_decide_eq_true h2).2⟩
/-- What the rows' mathematics says of it. -/
theorem look_v : ∀ (xs : List RowV) (s k : ByteArray), StoreMath.look (xs.map RowV.r) (nats s, nats k) = (lookV xs s k).map RegV.c
  | [], s, k => rfl
  | x :: xs, s, k => by
    have ih := look_v xs s k
    rw [List.map_cons, StoreMath.look]
    unfold lookV idxV at ih ⊢
    rw [List.findIdx?_cons]
    by_cases h : x.session = s ∧ x.key = k
    · rw [if_pos (by show (nats x.session, nats x.key) = _; rw [h.1, h.2]), if_pos (decide_eq_true h)]
      rfl
    · rw [if_neg (by
        intro e
        have e' : (nats x.session, nats x.key) = (nats s, nats k) := e
        obtain ⟨e1, e2⟩ := Prod.mk.inj e'
        exact h ⟨by rw [← txt_nats x.session, e1, txt_nats], by rw [← txt_nats x.key, e2, txt_nats]⟩), if_neg (by rw [decide_eq_false h]; decide), ih]
      cases xs.findIdx? (fun x => decide (x.session = s ∧ x.key = k)) with
      | none => rfl
      | some i => rfl
theorem head_v (xs : List RowV) (s : ByteArray) : StoreMath.head (xs.map RowV.r) (nats s) = (headV xs s).c := by
  unfold StoreMath.head headV
  have := look_v xs s ⟨#[]⟩
  rw [show nats (⟨#[]⟩ : ByteArray) = [] from rfl] at this
  rw [this]
  cases lookV xs s ⟨#[]⟩ with
  | none => rfl
  | some c => rfl
set_option maxRecDepth 100000 in
set_option maxHeartbeats 4000000 in
theorem refHead16 (b : Nat) (xs : List RowV) (s : ByteArray) (w : World) (h : RefSto w b xs) :
    Calls Tryz.prog 29 #[.pointer (some ⟨b, 0, none⟩), .string s] w fun e w' => e = .returned (headV xs s).val ∧ Below w.heap.size w w' := by
  obtain ⟨W, hW⟩ : ∃ W, W = w.alloc (.cells #[.int .i64 0, .int .i64 0, .string ⟨#[]⟩, .bool false, .int .i64 0] 33) := ⟨_, rfl⟩
  have al : Below w.heap.size w W := by rw [hW]; exact (Below.refl _ _).alloc (Nat.le_refl _) _
  have hl : Lies W w.heap.size [.int .i64 0, .int .i64 0, .string ⟨#[]⟩, .bool false, .int .i64 0] 33 := by rw [hW]; exact Lies.new w _ _
  have HC := Lib.hid (refCell16 b xs s ⟨#[]⟩ W (h.below al))
  have HB := Lib.hid al
  have HW := Lib.hid hW
  have HL := Lib.hid hl
  obtain ⟨pp, c, h1, h2, h3, h4⟩ := h.below al
  have HR := Lib.hid h4
  have HP := Lib.hid h1
  obtain ⟨N, hN⟩ : ∃ N, N = xs.length := ⟨_, rfl⟩
  have HN := Lib.hid hN
  rw [← hN] at h1 h2 HP
  have x0 := Lies.cell (i := 0) h1 rfl
  obtain ⟨g, hg⟩ : ∃ g, g = w.heap.size := ⟨_, rfl⟩
  rw [← hg] at hl HL
  have HG := Lib.hid hg
  have c0 := hl.cell (i := 0) rfl; have c1 := hl.cell (i := 1) rfl; have c2 := hl.cell (i := 2) rfl; have c3 := hl.cell (i := 3) rfl; have c4 := hl.cell (i := 4) rfl
  have f0 := hl.free 0; have f1 := hl.free 1; have f2 := hl.free 2; have f3 := hl.free 3; have f4 := hl.free 4
  unfold idxI at HC
  clear h h1 h4 hW al hl hN hg
  cases hi : idxV xs s ⟨#[]⟩ with
  | none =>
    rw [hi] at HC
    have HV := Lib.hid (show headV xs s = zeroR by unfold headV lookV; rw [hi]; rfl)
    clear hi
    go_enter Tryz.func29, Tryz.ntmps29
    go_wp2_with (rw [← HW.out, ← HG.out]; go_at_call 42; refine HC.out.mono ?_; rintro e w2 ⟨rfl, hw⟩; rw [hw]; clear hw)
    have HF := ((((HL.out.set 0 (.int .i64 0)).set 1 (.int .i64 0)).set 2 (.string ⟨#[]⟩)).set 3 (.bool false)).set 4 (.int .i64 0)
    refine bodyPost_ret (results_cell_row Tryz.results29 _ _ g 33 _ (0, 0) _ rfl HF Tryz.underlying33 rfl (by kernel_rfl)) rfl ?_
    refine ⟨by rw [HV.out]; rfl, ?_⟩
    exact HB.out.trans ((((((But.set g 0 W _).trans (But.set g 1 _ _)).trans (But.set g 2 _ _)).trans (But.set g 3 _ _)).trans (But.set g 4 _ _)).below (Nat.le_of_lt HL.out.lt) |>.mono (Nat.le_of_eq HG.out.symm))
  | some i =>
    rw [hi] at HC
    obtain ⟨x, hx, _, _⟩ := idx_lt hi
    have HV := Lib.hid (show headV xs s = x.cell by unfold headV lookV; rw [hi]; simp [hx])
    obtain ⟨b1, o1, rfl⟩ := HR.out.addr (by have := (List.getElem?_eq_some_iff.1 hx).1; omega)
    obtain ⟨d0, d1, d2, d3, d4, d5, d6⟩ := HR.out.look hx
    have q0 : (i : Int) < (N : Int) := by have := (List.getElem?_eq_some_iff.1 hx).1; have := HN.out; omega
    have t1 : decide ((i : Int) < 0) = false := decide_eq_false (by omega)
    obtain ⟨xs1, xk, ⟨xt, xr, xv, xg, xl⟩⟩ := x
    simp only at d0 d1 d2 d3 d4 d5 d6 HV
    clear hi hx
    go_enter Tryz.func29, Tryz.ntmps29
    go_wp2_with (rw [← HW.out, ← HG.out]; go_at_call 42; refine HC.out.mono ?_; rintro e w2 ⟨rfl, hw⟩; rw [hw]; clear hw)
    have HF := ((((HL.out.set 0 (.int .i64 xt)).set 1 (.int .i64 xr)).set 2 (.string xv)).set 3 (.bool xg)).set 4 (.int .i64 xl)
    refine bodyPost_ret (results_cell_row Tryz.results29 _ _ g 33 _ (0, 0) _ rfl HF Tryz.underlying33 rfl (by kernel_rfl)) rfl ?_
    refine ⟨by rw [HV.out]; rfl, ?_⟩
    exact HB.out.trans ((((((But.set g 0 W _).trans (But.set g 1 _ _)).trans (But.set g 2 _ _)).trans (But.set g 3 _ _)).trans (But.set g 4 _ _)).below (Nat.le_of_lt HL.out.lt) |>.mono (Nat.le_of_eq HG.out.symm))
end Go.Proofs.YtgbhfhnbmgkaoaaGreatDoor
namespace Go.Proofs.YtgbhfhnbmgkaoaaGreatDoor
open Go.RowKit TextNat RegMath

/-- What is got of a store. -/
def gotV (xs : List RowV) (s k : ByteArray) : Sum ByteArray Nat :=
  if k.size = 0 then .inr 1 else if visV (headV xs s) = false then .inr 14 else match lookV xs s k with
    | none => .inr 7
    | some c => if visV c = true then .inl c.value else .inr 7
def GotIs (g : Sum ByteArray Nat) (e : Ending) : Prop := match g with
  | .inl v => e = .returned (.tuple #[.string v, .int .i64 0])
  | .inr n => e = .returned (.tuple #[.string ⟨#[]⟩, .int .i64 (n : Int)])
set_option maxRecDepth 100000 in
set_option maxHeartbeats 4000000 in
theorem refGet16 (b : Nat) (xs : List RowV) (s k : ByteArray) (w : World) (h : RefSto w b xs) :
    Calls Tryz.prog 27 #[.pointer (some ⟨b, 0, none⟩), .string s, .string k] w fun e w' => GotIs (gotV xs s k) e ∧ Below w.heap.size w w' := by
  by_cases hk : k.size = 0
  · have t0 : ((k.size : Int) == 0) = true := by rw [beq_iff_eq]; omega
    have t0' : (k.size == 0) = true := by rw [beq_iff_eq]; exact hk
    have HG := Lib.hid (show gotV xs s k = .inr 1 by unfold gotV; rw [if_pos hk])
    clear hk h
    go_enter Tryz.func27, Tryz.ntmps27
    go_wp2
    go_ret2
    exact ⟨by rw [HG.out]; rfl, Below.refl _ _⟩
  have t0 : ((k.size : Int) == 0) = false := by rw [beq_eq_false_iff_ne]; omega
  have t0' : (k.size == 0) = false := by rw [beq_eq_false_iff_ne]; exact hk
  have HK := Lib.hid hk
  have HH := Lib.hid (refHead16 b xs s w h)
  have HV := Lib.hid (fun w => refVisible15 (headV xs s) w)
  have HR := Lib.hid h
  clear hk h
  cases hv : visV (headV xs s) with
  | false =>
    have HG := Lib.hid (show gotV xs s k = .inr 14 by unfold gotV; rw [if_neg HK.out, if_pos hv])
    rw [show (decide (0 < (headV xs s).time) && !(headV xs s).gone) = false from hv] at HV
    clear hv
    go_enter Tryz.func27, Tryz.ntmps27
    go_wp2_with (first
      | (go_at_call 29; refine HH.out.mono ?_; rintro e w2 ⟨rfl, hb⟩; have HB := Lib.hid hb; clear hb)
      | (go_at_call 51; refine (HV.out _).mono ?_; rintro e w3 ⟨rfl, hb⟩; replace HB := Lib.hid (HB.out.trans (hb.mono HB.out.size)); clear hb))
    go_ret2
    exact ⟨by rw [HG.out]; rfl, HB.out⟩
  | true =>
    rw [show (decide (0 < (headV xs s).time) && !(headV xs s).gone) = true from hv] at HV
    have HC := Lib.hid (fun w1 (hb : Below w.heap.size w w1) => refCell16 b xs s k w1 (HR.out.below hb))
    unfold idxI at HC
    have hv2 : ¬ visV (headV xs s) = false := by rw [hv]; decide
    cases hi : idxV xs s k with
    | none =>
      rw [hi] at HC
      have HG := Lib.hid (show gotV xs s k = .inr 7 by unfold gotV lookV; rw [if_neg HK.out, if_neg hv2, hi]; rfl)
      clear hv hv2 hi
      go_enter Tryz.func27, Tryz.ntmps27
      go_wp2_with (first
        | (go_at_call 29; refine HH.out.mono ?_; rintro e w2 ⟨rfl, hb⟩; have HB := Lib.hid hb; clear hb)
        | (go_at_call 51; refine (HV.out _).mono ?_; rintro e w3 ⟨rfl, hb⟩; replace HB := Lib.hid (HB.out.trans (hb.mono HB.out.size)); clear hb)
        | (go_at_call 42; refine (HC.out _ HB.out).mono ?_; rintro e w4 ⟨rfl, hw⟩; rw [hw]; clear hw))
      go_ret2
      exact ⟨by rw [HG.out]; rfl, HB.out⟩
    | some i =>
      rw [hi] at HC
      obtain ⟨x, hx, _, _⟩ := idx_lt hi
      obtain ⟨N, hN⟩ : ∃ N, N = xs.length := ⟨_, rfl⟩
      have HN := Lib.hid hN
      have q0 : (i : Int) < (N : Int) := by have := (List.getElem?_eq_some_iff.1 hx).1; omega
      have t1 : decide ((i : Int) < 0) = false := decide_eq_false (by omega)
      have HX := Lib.hid hx
      have HVx := Lib.hid (fun w => refVisible15 x.cell w)
      have HLk := Lib.hid (show lookV xs s k = some x.cell by unfold lookV; rw [hi]; simp [hx])
      have HGx := Lib.hid (show gotV xs s k = if visV x.cell = true then .inl x.cell.value else .inr 7 by unfold gotV; rw [if_neg HK.out, if_neg hv2, HLk.out])
      clear hv hv2 hi hx hN
      go_enter Tryz.func27, Tryz.ntmps27
      go_wp2_with fail
      refine HH.out.mono ?_
      rintro e w2 ⟨rfl, hb⟩
      have HB := Lib.hid hb
      clear hb
      go_wp2_with fail
      refine (HV.out _).mono ?_
      rintro e w3 ⟨rfl, hb⟩
      replace HB := Lib.hid (HB.out.trans (hb.mono HB.out.size))
      clear hb
      go_wp2_with fail
      refine (HC.out _ HB.out).mono ?_
      rintro e w4 ⟨rfl, hw⟩
      rw [hw]
      clear hw
      obtain ⟨pp, c, h1, h2, h3, h4⟩ := HR.out.below HB.out
      obtain ⟨b1, o1, rfl⟩ := h4.addr (by have := (List.getElem?_eq_some_iff.1 HX.out).1; omega)
      obtain ⟨d0, d1, d2, d3, d4, d5, d6⟩ := h4.look HX.out
      rw [← HN.out] at h1 h2
      have x0 := Lies.cell (i := 0) h1 rfl
      have HL1 := Lib.hid h1
      have HR4 := Lib.hid h4
      obtain ⟨xs1, xk, ⟨xt, xr, xv, xg, xl⟩⟩ := x
      simp only [RegV.val] at d0 d1 d2 d3 d4 d5 d6 HVx HGx
      cases hvx : visV ⟨xt, xr, xv, xg, xl⟩ with
      | false =>
        rw [show (decide (0 < xt) && !xg) = false from hvx] at HVx
        have HG := Lib.hid (show gotV xs s k = .inr 7 by rw [HGx.out, hvx]; rfl)
        clear hvx h1 h4
        go_wp2_with (go_at_call 51; refine (HVx.out _).mono ?_; rintro e w5 ⟨rfl, hb⟩; replace HB := Lib.hid (HB.out.trans (hb.mono HB.out.size)); clear hb)
        go_ret2
        exact ⟨by rw [HG.out]; rfl, HB.out⟩
      | true =>
        rw [show (decide (0 < xt) && !xg) = true from hvx] at HVx
        have HG := Lib.hid (show gotV xs s k = .inl xv by rw [HGx.out, hvx]; rfl)
        clear hvx h1 h4
        go_wp2_with (go_at_call 51; refine (HVx.out _).mono ?_; rintro e w5 ⟨rfl, hb⟩; replace HB := Lib.hid (HB.out.trans (hb.mono HB.out.size)); have L5 := HL1.out.below hb; have R5 := HR4.out.grown hb; clear hb x0 d0 d1 d2 d3 d4 d5 d6; have x0 := Lies.cell (i := 0) L5 rfl; obtain ⟨d0, d1, d2, d3, d4, d5, d6⟩ := R5.look HX.out; clear L5 R5)
        go_ret2
        exact ⟨by rw [HG.out]; rfl, HB.out⟩
end Go.Proofs.YtgbhfhnbmgkaoaaGreatDoor
