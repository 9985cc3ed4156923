/-
  Texts of one claim, merged.
  Nest3: A store whose cells stand in a map of maps: New, all, lives, copied, refusal, Head, Get. The conditions: texts of at most 1000 bytes, rows that rise.
  Nest5: A store into a map keyed by texts, as a step of a region that draws its order; a map compared with nil; what a put makes of a store's maps. No conditions but those typed.
  Nest4: Get of a store whose cells stand in a map of maps. The conditions: texts of at most 1000 bytes, rows that rise.
-/
import Derived.Test.YtgbhfhnbmgkaoaaGreatDoorNest2
import Derived.Test.YtgbhfhnbmgkaoaaGreatDoorRegP2
import Derived.Test.YtgbhfhnbmgkaoaaGreatDoorPart12
import Derived.Carry
import Derived.BigQuiet
import Derived.Deep.Cut
import Derived.Deep.CutRange
import Derived.Deep.RegionHeldLaw
import Derived.StillTailTactics
namespace Go.Proofs.YtgbhfhnbmgkaoaaGreatDoor
open Go.RowKit Go.Maps TextNat RegMath

set_option maxRecDepth 100000 in
theorem new16 : New16 sto16 := by
  intro w
  obtain ⟨W2, hW2⟩ : ∃ W2, W2 = w.alloc (.cells #[.map none] 91) := ⟨_, rfl⟩
  have b2 : Below w.heap.size w W2 := by rw [hW2]; exact (Below.refl _ _).alloc (Nat.le_refl _) _
  have HI := Lib.hid (show Nest W2 w.heap.size none [] [] from ⟨(by rw [hW2]; exact Lies.new w _ _), rfl, (fun p hp => by cases hp), (fun x hx => by cases hx), List.Pairwise.nil, (fun p hp => by cases hp), (by simp)⟩)
  have HB := Lib.hid b2
  have HW2 := Lib.hid hW2
  clear hW2 b2
  go_enter Tryz.func14, Tryz.ntmps14
  go_wp2
  go_ret
  rw [← HW2.out]
  refine ⟨⟨w.heap.size, _, rfl, ⟨none, [], HI.out, (fun p hp => by cases hp), rfl⟩, ?_⟩, HB.out⟩
  rintro k (rfl | h | ⟨p, hp, _⟩)
  · exact Nat.le_refl _
  · cases h
  · cases hp
set_option maxRecDepth 100000 in
theorem all16 (b : Nat) (m : Option Nat) (w : World) (h : Lies w b [.map m] 91) : Calls Tryz.prog 52 #[ptr16 b] w fun e w' => e = .returned (.map m) ∧ w' = w := by
  have x0 := h.cell (i := 0) rfl
  clear h
  go_enter Tryz.func52, Tryz.ntmps52
  go_wp2
  go_ret
  exact ⟨rfl, rfl⟩
set_option maxRecDepth 100000 in
theorem allNone16 (w : World) : Calls Tryz.prog 52 #[.pointer none] w fun e w' => e = .returned (.map none) ∧ w' = w := by
  go_enter Tryz.func52, Tryz.ntmps52
  go_wp2
  go_ret
  exact ⟨rfl, rfl⟩
set_option maxRecDepth 100000 in
/-- An error of this layer. -/
theorem refusal16 (n c : Int) (w : World) : Calls Tryz.prog 18 #[.int .i64 n, .int .i64 c] w fun e w' => (∃ x, e = .returned x ∧ ErrAt w' name16 n c x) ∧ Below w.heap.size w w' := by
  have HE := Lib.hid (fun w => at_some ⟨#[115, 116, 111, 114, 101]⟩ n 47 (.int .i64 c) w)
  go_enter Tryz.func18, Tryz.ntmps18
  go_wp2_with fail
  refine (HE.out w).mono ?_
  rintro e w' ⟨rfl, hw⟩
  have L := Lies.new w [.string name16, .int .i64 n, .iface 47 (.int .i64 c)] 106
  have HX := Lib.hid (show ErrAt w' name16 n c (.iface 66 (.pointer (some ⟨w.heap.size, 0, none⟩))) by rw [hw]; exact ⟨[], ⟨w.heap.size, _, rfl, L.lt, L.cell (i := 0) rfl, L.cell (i := 1) rfl, L.cell (i := 2) rfl, rfl⟩⟩)
  have HB := Lib.hid (show Below w.heap.size w w' by rw [hw]; exact (Below.refl _ _).alloc (Nat.le_refl _) _)
  clear hw L
  go_wp2
  go_ret
  exact ⟨⟨_, rfl, HX.out⟩, HB.out⟩
set_option maxRecDepth 100000 in
theorem copied16 (c : RegV) (hc : c.value.size ≤ 281474976710656) (w : World) : Calls Tryz.prog 20 #[c.val] w fun e w' => e = .returned c.val ∧ Below w.heap.size w w' := by
  have HC := Lib.hid (fun w => clone15 c.value hc w)
  clear hc
  obtain ⟨t, r, v, g, l⟩ := c
  unfold RegV.val
  simp only at HC ⊢
  go_enter Tryz.func20, Tryz.ntmps20
  go_wp2_with fail
  obtain ⟨W1, hW1⟩ : ∃ W1, W1 = w.alloc (.cells #[.int .i64 t, .int .i64 r, .string v, .bool g, .int .i64 l] 58) := ⟨_, rfl⟩
  obtain ⟨W2, hW2⟩ : ∃ W2, W2 = W1.alloc (.cells #[.int .i64 0, .int .i64 0, .string ⟨#[]⟩, .bool false, .int .i64 0] 58) := ⟨_, rfl⟩
  have hsz : W1.heap.size = w.heap.size + 1 := by rw [hW1]; simp
  have b1 : Below w.heap.size w W1 := by rw [hW1]; exact (Below.refl _ _).alloc (Nat.le_refl _) _
  have b2 : Below W1.heap.size W1 W2 := by rw [hW2]; exact (Below.refl _ _).alloc (Nat.le_refl _) _
  have L1 : Lies W2 w.heap.size [.int .i64 t, .int .i64 r, .string v, .bool g, .int .i64 l] 58 := by
    have : Lies W1 w.heap.size [.int .i64 t, .int .i64 r, .string v, .bool g, .int .i64 l] 58 := by rw [hW1]; exact Lies.new w _ _
    exact this.below b2
  have L2 : Lies W2 (w.heap.size + 1) [.int .i64 0, .int .i64 0, .string ⟨#[]⟩, .bool false, .int .i64 0] 58 := by rw [← hsz, hW2]; exact Lies.new W1 _ _
  rw [← hW1, ← hW2]
  refine (HC.out W2).mono ?_
  rintro e wm ⟨rfl, hb⟩
  have HB := Lib.hid ((b1.trans (b2.mono b1.size)).trans (hb.mono (Nat.le_trans b1.size b2.size)))
  have HL1 := Lib.hid (L1.below hb)
  have HL2 := Lib.hid (L2.below hb)
  clear hb L1 L2 b1 b2 hsz hW1 hW2
  have c0 := HL1.out.cell (i := 0) rfl; have c1 := HL1.out.cell (i := 1) rfl; have c2 := HL1.out.cell (i := 2) rfl; have c3 := HL1.out.cell (i := 3) rfl; have c4 := HL1.out.cell (i := 4) rfl
  have k2 := HL1.out.free 2
  have e0 := HL2.out.cell (i := 0) rfl; have e1 := HL2.out.cell (i := 1) rfl; have e2 := HL2.out.cell (i := 2) rfl; have e3 := HL2.out.cell (i := 3) rfl; have e4 := HL2.out.cell (i := 4) rfl
  have f0 := HL2.out.free 0; have f1 := HL2.out.free 1; have f2 := HL2.out.free 2; have f3 := HL2.out.free 3; have f4 := HL2.out.free 4
  go_wp2
  obtain ⟨q2, q3⟩ := put_five (Lies.but HL2.out (But.set w.heap.size 2 wm (.string v)) (by omega)) rfl (.int .i64 t) (.int .i64 r) (.string v) (.bool g) (.int .i64 l)
  refine bodyPost_ret (results_one Tryz.results20 rfl q2 Tryz.underlying58 rfl (by kernel_rfl)) rfl ?_
  have h1 := HB.out.trans ((But.below (But.set w.heap.size 2 wm (.string v)) (Nat.le_of_lt HL1.out.lt)).mono (Nat.le_refl _))
  exact ⟨rfl, h1.trans ((q3.below (Nat.le_trans (Nat.le_of_lt HL2.out.lt) (But.set w.heap.size 2 wm (.string v)).size)).mono (Nat.le_succ _))⟩
set_option maxRecDepth 100000 in
/-- Whether a session lives, by its map. -/
theorem lives16 (m' : Option Nat) (xs : List RowV) (s : ByteArray) (w : World) (h : MapAt cellE w m' (entS xs s)) :
    Calls Tryz.prog 44 #[.map m'] w fun e w' => e = .returned (.bool (visV (headV xs s))) ∧ Below w.heap.size w w' := by
  have hl := (key_look h (k := ⟨#[]⟩) (by decide)).1
  have HV := Lib.hid (fun w => visibleOk (headV xs s) w)
  obtain ⟨c, hc⟩ : ∃ c, c = headV xs s := ⟨_, rfl⟩
  rw [show (lookV xs s ⟨#[]⟩).getD zeroR = c from hc.symm] at hl
  rw [← hc] at HV ⊢
  clear hc h
  obtain ⟨t, r, v, g, l⟩ := c
  simp only [RegV.val] at hl HV
  go_enter Tryz.func44, Tryz.ntmps44
  go_wp2_with fail
  refine (HV.out w).mono ?_
  rintro e w2 ⟨rfl, hb⟩
  have HB := Lib.hid hb
  clear hb
  go_wp2
  go_ret
  exact ⟨rfl, HB.out⟩
set_option maxRecDepth 100000 in
theorem head16 : Head16 sto16 := by
  rintro b S xs s w ⟨m, os, h, hf, rfl⟩ hx hs
  have al : Below w.heap.size w (w.alloc (.cells #[.int .i64 0, .int .i64 0, .string ⟨#[]⟩, .bool false, .int .i64 0] 58)) := (Below.refl _ _).alloc (Nat.le_refl _) _
  obtain ⟨W, hW⟩ : ∃ W, W = w.alloc (.cells #[.int .i64 0, .int .i64 0, .string ⟨#[]⟩, .bool false, .int .i64 0] 58) := ⟨_, rfl⟩
  rw [← hW] at al
  obtain ⟨m', hs1, hs2, _, _⟩ := (h.below al).sess hs
  have hl := (key_look hs2 (k := ⟨#[]⟩) (by decide)).1
  have HAl := Lib.hid (all16 b m W (h.below al).top)
  have HL := Lib.hid (show Lies W w.heap.size [.int .i64 0, .int .i64 0, .string ⟨#[]⟩, .bool false, .int .i64 0] 58 by rw [hW]; exact Lies.new w _ _)
  have hv := lookV_short hx s ⟨#[]⟩
  obtain ⟨c, hc⟩ : ∃ c, c = headV xs s := ⟨_, rfl⟩
  rw [show (lookV xs s ⟨#[]⟩).getD zeroR = c from hc.symm] at hl hv
  have HC := Lib.hid (fun w => copied16 c (by omega) w)
  rw [← hc]
  have HB := Lib.hid al
  have HW := Lib.hid hW
  clear hc h hs hx al hW hv hs2 hf
  obtain ⟨t, r, v, g, l⟩ := c
  simp only [RegV.val] at hl HC ⊢
  go_enter Tryz.func28, Tryz.ntmps28
  go_upto_region 1 with fail
  rw [← HW.out]
  go_wp2_with fail
  refine HAl.out.mono ?_
  rintro e w0 ⟨rfl, hw0⟩
  rw [hw0]
  go_wp2_with fail
  refine (HC.out W).mono ?_
  rintro e wm ⟨rfl, hb⟩
  have HB2 := Lib.hid (HB.out.trans (hb.mono HB.out.size))
  have HLm := Lib.hid (HL.out.below hb)
  clear hb hl hs1 hw0
  have e0 := HLm.out.cell (i := 0) rfl; have e1 := HLm.out.cell (i := 1) rfl; have e2 := HLm.out.cell (i := 2) rfl; have e3 := HLm.out.cell (i := 3) rfl; have e4 := HLm.out.cell (i := 4) rfl
  have f0 := HLm.out.free 0; have f1 := HLm.out.free 1; have f2 := HLm.out.free 2; have f3 := HLm.out.free 3; have f4 := HLm.out.free 4
  go_wp2
  obtain ⟨q2, q3⟩ := put_five HLm.out rfl (.int .i64 t) (.int .i64 r) (.string v) (.bool g) (.int .i64 l)
  refine bodyPost_ret (results_one Tryz.results28 rfl q2 Tryz.underlying58 rfl (by kernel_rfl)) rfl ?_
  exact ⟨rfl, HB2.out.trans (q3.below HB2.out.size)⟩
end Go.Proofs.YtgbhfhnbmgkaoaaGreatDoor
namespace Go.Proofs.YtgbhfhnbmgkaoaaGreatDoor
open Go.RowKit Go.Maps TextNat RegMath

theorem step_put16 {α : Type} (E : Elem α) {ops : Array Oper} {o : Oper} {ac : Act} {K : Act → World → Prop} {Q : Exit → Act → World → Prop} {F : Prop} {w : World} (hw : Region.wanted o (yielded ops ac.tmps) = true) (m x v : Operand) (t e : TypeId) (hop : o.op = Op.mapUpdate t m x v)
    (ht : Tryz.prog.underlying t = some (.map 9 e)) (b : Nat) (l : List (ByteArray × α)) (hm : ac.eval m = .map (some b)) (hown : MapAt E w (some b) l) (hn : l.length < maxLen) (s : ByteArray) (hs : s.size ≤ maxLen) (hx : ac.eval x = .string s) (c : α) (hv : ac.eval v = E.val c)
    (h : ∀ w', MapAt E w' (some b) ((s, c) :: l.filter fun p => decide (p.1 ≠ s)) → w.grownBy w' (some b) → K (ac.put o.dst undef) w') : if Region.wanted o (yielded ops ac.tmps) = true then Oper.wp Tryz.prog o ac w K Q else F := by
  rw [if_pos hw]
  obtain ⟨D, h1, h2⟩ := hown
  obtain ⟨w', hrun, r1, r2⟩ := h1.update tk.law ht hn (tk.is s hs) (E.read_mk c)
  have h3 : Holds16 tk E (D.put (tk.lit s) (E.dat c)) ((s, c) :: l.filter fun p => decide (p.1 ≠ s)) := h2.put hs c
  have hrun2 : (Instr.mapUpdate t (.map (some b)) (.string s) (E.val c)).run Tryz.prog w = .ok () w' := hrun
  unfold Oper.wp execOp
  simp only [hop, Sem.run_bind, Sem.run_pure, Result.andThen_ok, hm, hx, hv, hrun2]
  exact h w' (MapAt.of r1 h3) r2
theorem eql_nil2 (m : Option Nat) (w : World) : (binOp .eql 89 (.map m) (.map none)).run Tryz.prog w = .ok (.bool m.isNone) w := by
  have h : ∀ d : Nat, (Op.equalIn (d + 1) 89 (.map m) (.map none)).run Tryz.prog w = .ok m.isNone w := fun d => by
    cases m <;> simp [Op.equalIn, run_underlying Tryz.underlying89]
  simp only [binOp]
  simp [Op.equal, Op.maxDepth, h 9999]
theorem eql_nil1 (m : Option Nat) (w : World) : (binOp .eql 88 (.map m) (.map none)).run Tryz.prog w = .ok (.bool m.isNone) w := by
  have h : ∀ d : Nat, (Op.equalIn (d + 1) 88 (.map m) (.map none)).run Tryz.prog w = .ok m.isNone w := fun d => by
    cases m <;> simp [Op.equalIn, run_underlying Tryz.underlying88]
  simp only [binOp]
  simp [Op.equal, Op.maxDepth, h 9999]
theorem Nest.perm {w : World} {b : Nat} {m : Option Nat} {os : List (ByteArray × Nat)} {xs xs' : List RowV} (h : Nest w b m os xs) (hp : xs.Perm xs') : Nest w b m os xs' where
  top := h.top
  map := h.map
  inner p hq := (h.inner p hq).perm (entS_perm hp p.1)
  all x hx := h.all x (hp.mem_iff.2 hx)
  apart := h.apart
  out := h.out
  ne := h.ne
/-- The store's map is made. -/
theorem nest_made {w w' : World} {b bm : Nat} {os : List (ByteArray × Nat)} {xs : List RowV} (h : Nest w b none os xs) (ht : Lies w' b [.map (some bm)] 91) (hm : MapAt mapE w' (some bm) []) (hn : bm ≠ b) : Nest w' b (some bm) [] xs := by
  have h1 : os.map sesE = [] := h.map
  have h2 : os = [] := List.map_eq_nil_iff.1 h1
  subst h2
  have h3 : xs = [] := List.eq_nil_iff_forall_not_mem.2 fun x hx => by
    obtain ⟨p, hp, _⟩ := h.all x hx
    cases hp
  subst h3
  exact ⟨ht, hm, (fun p hp => by cases hp), (fun x hx => by cases hx), List.Pairwise.nil, (fun p hp => by cases hp), fun e => hn (Option.some.inj e)⟩
/-- A session's map is made. -/
theorem nest_sess {w w' : World} {b bm bi : Nat} {os : List (ByteArray × Nat)} {xs : List RowV} {s : ByteArray} (h : Nest w b (some bm) os xs) (hs : ∀ p ∈ os, p.1 ≠ s) (ht : w'.heap[b]? = w.heap[b]?)
    (hm : MapAt mapE w' (some bm) ((s, some bi) :: (os.map sesE).filter fun p => decide (p.1 ≠ s))) (hi : MapAt cellE w' (some bi) []) (hin : ∀ p ∈ os, w'.heap[p.2]? = w.heap[p.2]?) (hn : bi ≠ b ∧ bi ≠ bm ∧ ∀ p ∈ os, p.2 ≠ bi) : Nest w' b (some bm) ((s, bi) :: os) xs where
  top := ht.trans h.top
  map := by
    rw [List.filter_eq_self.2 (fun p hp => by
      obtain ⟨q, hq, rfl⟩ := List.mem_map.1 hp
      exact decide_eq_true (hs q hq))] at hm
    exact hm
  inner p hp := by
    rcases List.mem_cons.1 hp with rfl | hp
    · rw [entS_none fun x hx e => by
        obtain ⟨q, hq, e2⟩ := h.all x hx
        exact hs q hq (e2.trans e)]
      exact hi
    · exact (h.inner p hp).same fun k hk => by
        obtain rfl := Option.some.inj hk
        exact hin p hp
  all x hx := by
    obtain ⟨p, hp, e⟩ := h.all x hx
    exact ⟨p, List.mem_cons_of_mem _ hp, e⟩
  apart := List.pairwise_cons.2 ⟨fun p hp e => hn.2.2 p hp e.symm, h.apart⟩
  out p hp := by
    rcases List.mem_cons.1 hp with rfl | hp
    · exact ⟨hn.1, fun e => hn.2.1 (Option.some.inj e).symm⟩
    · exact h.out p hp
  ne := h.ne
/-- A session's map is stored into. -/
theorem nest_put {w w' : World} {b bi : Nat} {m : Option Nat} {os : List (ByteArray × Nat)} {xs : List RowV} {s k : ByteArray} {c : RegV} (h : Nest w b m os xs) (hp : (s, bi) ∈ os)
    (hm : MapAt cellE w' (some bi) ((k, c) :: (entS xs s).filter fun p => decide (p.1 ≠ k))) (e : ∀ j, NestS b m os j → j ≠ bi → w'.heap[j]? = w.heap[j]?) : Nest w' b m os ((⟨s, k, c⟩ : RowV) :: xs.filter fun r => !atV s k r) where
  top := (e b (.inl rfl) (fun h0 => (h.out _ hp).1 h0.symm)).trans h.top
  map := h.map.same fun bm hbm => e bm (.inr (.inl hbm)) fun h0 => (h.out _ hp).2 (by rw [hbm, h0])
  inner p hq := by
    by_cases e1 : p.1 = s
    · have e2 : p = (s, bi) := h.one hq hp e1
      subst e2
      show MapAt cellE w' (some bi) (entS _ s)
      rw [entS_put]
      exact hm
    · rw [entS_other xs k c e1]
      refine (h.inner p hq).same fun j hj => ?_
      obtain rfl := Option.some.inj hj
      refine e p.2 (.inr (.inr ⟨p, hq, rfl⟩)) fun e3 => ?_
      have key : ∀ {l : List (ByteArray × Nat)}, l.Pairwise (fun p q => p.2 ≠ q.2) → p ∈ l → (s, bi) ∈ l → p = (s, bi) := by
        intro l
        induction l with
        | nil => intro _ h0; cases h0
        | cons x l ih =>
          intro ha h1 h2
          obtain ⟨a1, a2⟩ := List.pairwise_cons.1 ha
          rcases List.mem_cons.1 h1 with g1 | g1
          · rcases List.mem_cons.1 h2 with g2 | g2
            · rw [g1, g2]
            · exact absurd (by rw [← g1]; exact e3) (a1 _ g2)
          · rcases List.mem_cons.1 h2 with g2 | g2
            · exact absurd (by rw [← g2]; exact e3.symm) (a1 _ g1)
            · exact ih a2 g1 g2
      exact e1 (by rw [key h.apart hq hp])
  all x hx := by
    rcases List.mem_cons.1 hx with rfl | hx
    · exact ⟨_, hp, rfl⟩
    · exact h.all x (List.mem_filter.1 hx).1
  apart := h.apart
  out := h.out
  ne := h.ne
end Go.Proofs.YtgbhfhnbmgkaoaaGreatDoor
namespace Go.Proofs.YtgbhfhnbmgkaoaaGreatDoor
open Go.RowKit Go.Maps TextNat RegMath

set_option maxRecDepth 100000 in
set_option maxHeartbeats 4000000 in
theorem get16 : Get16 sto16 := by
  rintro b S xs s k w ⟨m, os, h, hf, rfl⟩ hx hs hk
  have e0 := text_isEmpty k
  by_cases h0 : k.size = 0
  · rw [decide_eq_true h0] at e0
    have HG := Lib.hid (show gotV xs s k = .inr 1 by unfold gotV; rw [if_pos h0])
    have HE := Lib.hid (fun w => refusal16 0 1 w)
    clear h0 h hx
    go_enter Tryz.func16, Tryz.ntmps16
    go_wp2_with fail
    refine (HE.out w).mono ?_
    rintro e w2 ⟨⟨x, rfl, hx⟩, hb⟩
    have HX := Lib.hid (show GetSays w2 (gotV xs s k) (.returned (.tuple #[.string ⟨#[]⟩, x])) by rw [HG.out]; exact ⟨x, rfl, hx.is⟩)
    have HB := Lib.hid hb
    clear hx hb
    go_wp2
    go_ret2
    exact ⟨HX.out, HB.out⟩
  rw [decide_eq_false h0] at e0
  obtain ⟨m', hl1, hl2, _, _⟩ := h.sess hs
  have x0 := h.top.cell (i := 0) rfl
  have HLv := Lib.hid (lives16 m' xs s w hl2)
  have HM := Lib.hid hl2
  have HK := Lib.hid h0
  cases hv : visV (headV xs s) with
  | false =>
    rw [hv] at HLv
    have HG := Lib.hid (show gotV xs s k = .inr 14 by unfold gotV; rw [if_neg h0, if_pos hv])
    have HE := Lib.hid (fun w => refusal16 0 14 w)
    clear h0 h hx hv hf hl2
    go_enter Tryz.func16, Tryz.ntmps16
    go_wp2_with fail
    refine HLv.out.mono ?_
    rintro e w1 ⟨rfl, hb⟩
    have HB := Lib.hid hb
    clear hb
    go_wp2_with fail
    refine (HE.out w1).mono ?_
    rintro e w2 ⟨⟨x, rfl, hx⟩, hb⟩
    have HX := Lib.hid (show GetSays w2 (gotV xs s k) (.returned (.tuple #[.string ⟨#[]⟩, x])) by rw [HG.out]; exact ⟨x, rfl, hx.is⟩)
    have HB2 := Lib.hid (HB.out.trans (hb.mono HB.out.size))
    clear hx hb
    go_wp2
    go_ret2
    exact ⟨HX.out, HB2.out⟩
  | true =>
    rw [hv] at HLv
    have hv2 : ¬ visV (headV xs s) = false := by rw [hv]; decide
    obtain ⟨r, hr⟩ : ∃ r, r = lookV xs s k := ⟨_, rfl⟩
    have HL1 := Lib.hid (fun w1 (hb : Below w.heap.size w w1) => (key_look (HM.out.below hb) hk).1)
    have hsz := lookV_short hx s k
    rw [← hr] at HL1 hsz
    obtain ⟨c, hc⟩ : ∃ c, c = r.getD zeroR := ⟨_, rfl⟩
    rw [← hc] at HL1 hsz
    have HV := Lib.hid (fun w => visibleOk c w)
    have HC := Lib.hid (fun w => clone15 c.value (by omega) w)
    have HE := Lib.hid (fun w => refusal16 0 7 w)
    have HG2 := Lib.hid (show gotV xs s k = if visV c = true then .inl c.value else .inr 7 by
      unfold gotV
      rw [if_neg h0, if_neg hv2, ← hr, hc]
      cases r with
      | none => rfl
      | some c0 => rfl)
    clear h0 h hx hv hv2 hr hsz hc hf hl2
    obtain ⟨t, rg, v, g, l⟩ := c
    simp only [RegV.val] at HL1 HV HC
    go_enter Tryz.func16, Tryz.ntmps16
    go_wp2_with fail
    refine HLv.out.mono ?_
    rintro e w1 ⟨rfl, hb⟩
    have HB := Lib.hid hb
    have hl := HL1.out w1 hb
    clear hb
    go_wp2_with fail
    obtain ⟨W3, hW3⟩ : ∃ W3, W3 = w1.alloc (.cells #[.int .i64 t, .int .i64 rg, .string v, .bool g, .int .i64 l] 58) := ⟨_, rfl⟩
    have b3 : Below w1.heap.size w1 W3 := by rw [hW3]; exact (Below.refl _ _).alloc (Nat.le_refl _) _
    obtain ⟨X, hX⟩ : ∃ X, X = w1.heap.size := ⟨_, rfl⟩
    have HL3 := Lib.hid (show Lies W3 X [.int .i64 t, .int .i64 rg, .string v, .bool g, .int .i64 l] 58 by rw [hW3, hX]; exact Lies.new w1 _ _)
    have HB3 := Lib.hid (HB.out.trans (b3.mono HB.out.size))
    rw [← hW3, ← hX]
    clear hW3 hX b3 x0 hl hl1
    refine (HV.out W3).mono ?_
    rintro e w4 ⟨rfl, hb⟩
    have HB4 := Lib.hid (HB3.out.trans (hb.mono HB3.out.size))
    have HL4 := Lib.hid (HL3.out.below hb)
    clear hb
    obtain ⟨bb, hbb⟩ : ∃ bb, bb = (decide (0 < t) && !g) := ⟨_, rfl⟩
    rw [show visV (⟨t, rg, v, g, l⟩ : RegV) = bb from hbb.symm] at HG2
    rw [← hbb]
    clear hbb
    have c0 := HL4.out.cell (i := 0) rfl; have c1 := HL4.out.cell (i := 1) rfl; have c2 := HL4.out.cell (i := 2) rfl; have c3 := HL4.out.cell (i := 3) rfl; have c4 := HL4.out.cell (i := 4) rfl
    cases bb with
    | true =>
      go_wp2_with fail
      refine (HC.out w4).mono ?_
      rintro e w5 ⟨rfl, hb⟩
      have HB5 := Lib.hid (HB4.out.trans (hb.mono HB4.out.size))
      clear hb
      go_wp2
      go_ret2
      exact ⟨by rw [HG2.out]; rfl, HB5.out⟩
    | false =>
      go_wp2_with fail
      refine (HE.out w4).mono ?_
      rintro e w2 ⟨⟨x, rfl, hx⟩, hb⟩
      have HX := Lib.hid (show GetSays w2 (gotV xs s k) (.returned (.tuple #[.string ⟨#[]⟩, x])) by rw [HG2.out]; exact ⟨x, rfl, hx.is⟩)
      have HB2 := Lib.hid (HB4.out.trans (hb.mono HB4.out.size))
      clear hx hb
      go_wp2
      go_ret2
      exact ⟨HX.out, HB2.out⟩
end Go.Proofs.YtgbhfhnbmgkaoaaGreatDoor
