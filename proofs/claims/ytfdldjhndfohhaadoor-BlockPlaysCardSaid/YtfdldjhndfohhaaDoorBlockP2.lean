/-
  The contracts of the program's device of chapter 8: New, Room, Fuse, what it is asked, Append. No conditions but those typed.
-/
import Derived.Test.YtfdldjhndfohhaaDoorBlockP1
import Derived.Test.YtfdldjhndfohhaaDoorBlockKeepMath
namespace Go.Proofs.YtfdldjhndfohhaaDoor
open Go.RowKit BlockMath TextNat

theorem ErrNew.mono {B B' : Nat} {w : World} {n c : Int} {x : Value} (h : ErrNew B w n c x) (hB : B' ≤ B) : ErrNew B' w n c x := fun w2 h2 k2 => h w2 h2 fun k h3 h4 => k2 k (Nat.le_trans hB h3) h4
theorem err_none {B : Nat} {w : World} {n : Int} : ErrOf B w 0 n .nilIface := by unfold ErrOf; rw [if_pos rfl]
theorem err_some {B : Nat} {w : World} {n c : Int} {x : Value} (hc : c ≠ 0) (h : ErrNew B w n c x) : ErrOf B w c n x := by unfold ErrOf; rw [if_neg hc]; exact h
theorem strs_nats (s : ByteArray) : Lib.strCells s = byteVals (nats s) := by
  unfold Lib.strCells byteVals nats
  rw [List.map_map]
  rfl
theorem bytes_app (a b : List Nat) : byteVals (a ++ b) = byteVals a ++ byteVals b := by unfold byteVals; rw [List.map_append]
theorem bytes_take (a : List Nat) (n : Nat) : byteVals (a.take n) = (byteVals a).take n := by unfold byteVals; rw [List.map_take]
/-- append of a text's bytes onto a device's row: the row lies where it lay, or in a new block. -/
theorem put_text {ops : Array Oper} {rest : List Oper} {o : Oper} {ac : Act} {Q : Exit → Act → World → Prop} {w : World} (hgd : o.guard = none) (s x : Operand)
    (ho : o.op = .call { callee := .builtin .append, args := #[s, x], argTypes := #[46, 9] })
    (p : Option Addr) (n cap : Nat) (l : List Nat) (hs : ac.eval s = .slice p n cap) (hown : w.ownsRow 0 5 1 (.slice p n cap) n (byteVals l)) (t : ByteArray) (hx : ac.eval x = .string t) (hz : n + t.size ≤ 10000000)
    (h : ∀ p' cap' w', w'.ownsRow 0 5 1 (.slice p' (n + t.size) cap') (n + t.size) (byteVals (l ++ nats t)) → w.grownBy w' (p.map (·.block)) → (∀ k, p'.map (·.block) = some k → p.map (·.block) = some k ∨ w.heap.size ≤ k) →
      wpList Tryd.prog ops Q rest (ac.put o.dst (.slice p' (n + t.size) cap')) w') : wpList Tryd.prog ops Q (o :: rest) ac w := by
  obtain ⟨ib, hib, hb0, hb1, hb2⟩ := info_parts info_byte
  refine wpList_plain hgd fun K hK => ?_
  obtain ⟨v', w', hr, h2, h3, h4⟩ := Lib.run_append_own_string (P := Tryd.prog) w 0 46 9 o.type 5 ib Tryd.underlying46 Tryd.underlying9 hib hb0 hb1 hb2 _ _ _ hown t (by unfold maxLen; omega) (by omega) (Nat.zero_le _)
  obtain ⟨p', cap', rfl⟩ : ∃ p' cap', v' = .slice p' (n + t.size) cap' := by
    obtain ⟨p', cap', e⟩ := (OwnsM.of h2).shape
    exact ⟨p', cap', e⟩
  have hp : ∀ k, p'.map (·.block) = some k → p.map (·.block) = some k ∨ w.heap.size ≤ k := by
    intro k hk
    rcases own_cases hown with ⟨rfl, rfl, rfl⟩ | ⟨g, cur, rfl, hg, hnc⟩
    · by_cases h0 : t.size = 0
      · have := h4.2 ⟨rfl, h0⟩
        simp at this
        rw [this.1] at hk
        cases hk
      · have hr2 := run_append_nil_string (P := Tryd.prog) w 46 9 o.type 5 ib (.int .u8 0) Tryd.underlying46 Tryd.underlying9 hib hb0 t (by omega) (by omega) (by rw [hb2]; omega)
        rw [hr2] at hr
        simp at hr
        rw [← hr.1.1] at hk
        simp at hk
        right
        omega
    · rcases hown.2 with ⟨h1, _⟩ | ⟨g', cap2, cur2, h5, h6, h7, h8, h9, h10, h11⟩
      · simp at h1
      · simp only [Value.slice.injEq, Option.some.injEq, Addr.mk.injEq, and_true, true_and] at h5
        obtain ⟨rfl, rfl⟩ := h5
        by_cases hroom : n + t.size ≤ cap
        · have hr2 := Lib.run_append_room_string (P := Tryd.prog) w 46 9 o.type 5 ib Tryd.underlying46 Tryd.underlying9 hib hb1 g n cap cur2 h7 t hroom (by omega)
          rw [hr2] at hr
          simp at hr
          rw [← hr.1.1] at hk
          exact .inl hk
        · have hr2 := Lib.run_append_grow_string (P := Tryd.prog) w 46 9 o.type 5 ib (.int .u8 0) Tryd.underlying46 Tryd.underlying9 hib hb0 ⟨g, 0, none⟩ n cap (byteVals l) (by rw [hb1]; exact hown.1) (hown.cells (g := g) rfl) t (by omega) (by omega) (by rw [hb2]; exact growslice_fits (by omega) (by omega))
          rw [hr2] at hr
          simp at hr
          rw [← hr.1.1] at hk
          simp at hk
          right
          omega
  unfold Oper.wp execOp
  simp only [ho, resolve, invoke, builtin, Sem.run_bind, Sem.run_pure, Result.andThen_ok, List.map_toArray, List.map_cons, List.map_nil, hs, hx, hr]
  refine hK _ _ (h p' cap' w' ?_ ?_ hp)
  · rw [bytes_app, ← strs_nats]
    exact h2
  · cases p <;> exact h3
theorem own_take {w : World} {p : Option Addr} {n cap m : Nat} {l : List Nat} (h : w.ownsRow 0 5 1 (.slice p n cap) n (byteVals l)) (hm : m ≤ n) : w.ownsRow 0 5 1 (.slice p m cap) m (byteVals (l.take m)) := by
  have hl := h.1
  rw [byteVals_len] at hl
  refine ⟨by rw [byteVals_len, List.length_take]; omega, ?_⟩
  rcases h.2 with ⟨h1, h2⟩ | ⟨g, cap', cur, h1, h2, h3, h4, h5, h6, h7⟩
  · simp at h1
    obtain ⟨rfl, rfl, rfl⟩ := h1
    obtain rfl : m = 0 := by omega
    exact .inl ⟨rfl, rfl⟩
  · simp at h1
    obtain ⟨rfl, rfl⟩ := h1
    refine .inr ⟨g, cap, cur, rfl, h2, h3, by omega, h5, h6, ?_⟩
    rw [bytes_take, ← h7, List.take_take]
    congr 1
    omega
section
variable {w : World} {b : Nat} {S : Nat → Prop} {d : Dk}
theorem all_len {p : Option Addr} {n cap : Nat} {sf rm lf : Int} {dn fu : Bool} (h : Raw w b p n cap (nats (all d)) sf rm dn fu lf) : n = (all d).size := by rw [← h.len, nats_len]
theorem size_is {n : Nat} (h : n = (all d).size) : size d = if d.off then 0 else (n : Int) := by unfold size; rw [h]
end
set_option maxRecDepth 100000 in
theorem downOk : DownOk dev := by
  rintro b S d w ⟨p, n, cap, fu, lf, h, hf, hS⟩ ok
  refine (downR h).mono ?_
  rintro e w' ⟨rfl, rfl⟩
  exact ⟨rfl, Below.refl _ _⟩
theorem lenOk : LenOk dev := by
  rintro b S d w ⟨p, n, cap, fu, lf, h, hf, hS⟩ ok
  refine (lenR h).mono ?_
  rintro e w' ⟨rfl, rfl⟩
  exact ⟨by rw [size_is (all_len h)], Below.refl _ _⟩
theorem safeOk : SafeOk dev := by
  rintro b S d w ⟨p, n, cap, fu, lf, h, hf, hS⟩ ok
  refine (safeR h).mono ?_
  rintro e w' ⟨rfl, rfl⟩
  exact ⟨rfl, Below.refl _ _⟩
theorem does_same {w w' : World} {b : Nat} {S : Nat → Prop} {d : Dk} {p : Option Addr} {n cap : Nat} {fu : Bool} {lf : Int} (h : Raw w b p n cap (nats (all d)) d.done.size d.room d.off fu lf) (hf : Fz d fu lf) (hS : ∀ k, S k ↔ Mine p b k) (hb : Below w.heap.size w w') : Does dev w b S d w' :=
  does_of hS (h.below hb) rfl rfl rfl rfl hf (fun _ hk => .inl hk) (Apart.of hb)
set_option maxRecDepth 100000 in
theorem fuseOk : FuseOk dev := by
  rintro b S d n w ⟨p, m, cap, fu, lf, h, hf, hS⟩ ok hn
  have HR := Lib.hid ((h.put (i := 4) (x := .bool (decide (0 ≤ n))) (fu' := decide (0 ≤ n)) rfl).put (i := 5) (x := .int .i64 n) rfl)
  have HF := Lib.hid (show Fz (fuse n d) (decide (0 ≤ n)) n from ⟨hn, fun _ => ⟨by
    show decide (0 ≤ n) = decide (0 ≤ max n (-1))
    rw [Bool.eq_iff_iff]
    simp
    omega, by
    show 0 ≤ max n (-1) → n = max n (-1)
    omega⟩⟩)
  have HB := Lib.hid (Apart.but (S := S) ((hS b).2 (.inl rfl)) ((But.set b 4 w (.bool (decide (0 ≤ n)))).trans (But.set b 5 _ (.int .i64 n))))
  have HS := Lib.hid hS
  have c4 := Lies.cell (i := 4) h.lies rfl
  have c5 := Lies.cell (i := 5) h.lies rfl
  have f4 := Lies.free h.lies 4
  have f5 := Lies.free h.lies 5
  obtain ⟨q, hq⟩ : ∃ q, q = decide (0 ≤ n) := ⟨_, rfl⟩
  rw [← hq] at HR HF HB
  have hq2 : decide (0 ≤ n) = q := hq.symm
  clear h hf hS hq ok hn
  go_enter Tryd.func27, Tryd.ntmps27
  go_wp2
  go_end0
  exact ⟨rfl, does_of HS.out HR.out rfl rfl rfl rfl HF.out (fun _ hk => .inl hk) HB.out⟩
set_option maxRecDepth 100000 in
theorem roomR {w : World} {b m cap : Nat} {p : Option Addr} {l : List Nat} {sf rm lf : Int} {dn fu : Bool} {n : Int} (h : Raw w b p m cap l sf rm dn fu lf) :
    Calls Tryd.prog 16 #[ptr b, .int .i64 n] w fun e w' =>
      (if n < 0 ∨ 1048576 < n then (∃ x, e = .returned x ∧ ErrNew w.heap.size w' (if dn then 0 else (m : Int)) 1 x) ∧ Below w.heap.size w w' else e = .returned .nilIface ∧ Raw w' b p m cap l sf n dn fu lf ∧ But b w w') := by
  have HE := Lib.hid (refR h 1)
  have HR := Lib.hid (h.put (i := 2) (x := .int .i64 n) rfl)
  have c2 := Lies.cell (i := 2) h.lies rfl
  have f2 := Lies.free h.lies 2
  clear h
  obtain ⟨k, hk⟩ : ∃ k : Int, k = if dn then 0 else (m : Int) := ⟨_, rfl⟩
  rw [← hk] at HE ⊢
  clear hk
  cases h1 : decide (n < 0) <;> cases h2 : decide (1048576 < n)
  all_goals
    first
      | (have hr := Lib.hid (show (n < 0 ∨ 1048576 < n) by have := of_decide_eq_true h1; omega))
      | (have hr := Lib.hid (show (n < 0 ∨ 1048576 < n) by have := of_decide_eq_true h2; omega))
      | (have hr := Lib.hid (show ¬ (n < 0 ∨ 1048576 < n) by have := of_decide_eq_false h1; have := of_decide_eq_false h2; omega))
    first
      | simp only [if_neg hr.out]
      | simp only [if_pos hr.out]
    go_enter Tryd.func16, Tryd.ntmps16
    go_wp2_with (go_at_call 33; refine HE.out.mono ?_; rintro e w2 ⟨⟨x, rfl, hx⟩, hb⟩; replace hx := Lib.hid hx; replace hb := Lib.hid hb)
    go_ret
    first
      | exact ⟨rfl, HR.out, But.set _ _ _ _⟩
      | exact ⟨⟨_, rfl, hx.out⟩, hb.out⟩
theorem roomOk : RoomOk dev := by
  rintro b S d n w ⟨p, m, cap, fu, lf, h, hf, hS⟩ ok hn
  refine (roomR (n := n) h).mono ?_
  intro e w' h1
  unfold BlockMath.room
  by_cases hr : n < 0 ∨ 1048576 < n
  · rw [if_pos hr] at h1
    rw [if_pos hr]
    obtain ⟨⟨x, rfl, hx⟩, hb⟩ := h1
    exact ⟨⟨x, rfl, err_some (show (1 : Int) ≠ 0 by decide) (by rw [size_is (all_len h)]; exact hx)⟩, does_same h hf hS hb⟩
  · rw [if_neg hr] at h1
    rw [if_neg hr]
    obtain ⟨rfl, h2, hb⟩ := h1
    exact ⟨⟨_, rfl, err_none⟩, does_of hS h2 rfl rfl rfl rfl ⟨hf.1, hf.2⟩ (fun _ hk => .inl hk) (Apart.but ((hS b).2 (.inl rfl)) hb)⟩
set_option maxRecDepth 100000 in
theorem newOk : NewOk dev := by
  intro r w hr
  have HA := Lib.hid (show Below w.heap.size w (w.alloc (.cells #[.slice none 0 0, .int .i64 0, .int .i64 0, .bool false, .bool false, .int .i64 0] 48)) from (Below.refl _ _).alloc (Nat.le_refl _) _)
  have HL := Lib.hid (show Raw (w.alloc (.cells #[.slice none 0 0, .int .i64 0, .int .i64 0, .bool false, .bool false, .int .i64 0] 48)) w.heap.size none 0 0 [] 0 0 false false 0 from ⟨Lies.new w _ _, World.ownsRow_nil _ _ _ _, by simp⟩)
  have HM := roomR (n := r) HL.out
  by_cases hx : r < 0 ∨ 1048576 < r
  · simp only [if_neg (show ¬ (0 ≤ r ∧ r ≤ 1048576) by omega)]
    simp only [if_pos hx] at HM
    replace HM := Lib.hid HM
    clear hx hr
    go_enter Tryd.func5, Tryd.ntmps5
    go_wp2_with fail
    refine HM.out.mono ?_
    rintro e w2 ⟨⟨x, rfl, hx⟩, hb⟩
    obtain ⟨T, y, rfl⟩ := hx.is.iface
    replace hx := Lib.hid hx
    replace hb := Lib.hid (HA.out.trans (hb.mono HA.out.size))
    clear HL HM
    go_wp2
    go_ret2
    exact ⟨⟨_, rfl, hx.out.is⟩, hb.out⟩
  · simp only [if_pos (show (0 ≤ r ∧ r ≤ 1048576) by omega)]
    simp only [if_neg hx] at HM
    replace HM := Lib.hid HM
    clear hx hr
    go_enter Tryd.func5, Tryd.ntmps5
    go_wp2_with fail
    refine HM.out.mono ?_
    rintro e w2 ⟨rfl, h2, hb⟩
    replace h2 := Lib.hid h2
    replace hb := Lib.hid (HA.out.trans (hb.below (by simp)))
    clear HL HM
    go_wp2
    go_ret2
    refine ⟨⟨_, rfl, Mine none w.heap.size, ⟨none, 0, 0, false, 0, h2.out, ⟨by unfold I64; omega, fun _ => ⟨rfl, fun h => absurd h (by show ¬ (0 : Int) ≤ -1; decide)⟩⟩, fun _ => Iff.rfl⟩, ?_⟩, hb.out⟩
    rintro k (rfl | hk)
    · exact Nat.le_refl _
    · cases hk
end Go.Proofs.YtfdldjhndfohhaaDoor
namespace Go.Proofs.YtfdldjhndfohhaaDoor
open Go.RowKit BlockMath TextNat

theorem below_drewN {B k : Nat} {w w2 : World} (h : Below B (w.drewN k) w2) : Below B w w2 := ⟨h.os, h.tape, h.output, h.size, h.block⟩
theorem but_drewN {b k : Nat} {w w2 : World} (h : But b (w.drewN k) w2) : But b w w2 := ⟨h.os, h.tape, h.output, h.size, h.block⟩
theorem all_does (d : Dk) : all (doesD d) = all d := by unfold all; rw [doesD_done, doesD_late]
section
variable {w w2 : World} {b n n' cap cap' : Nat} {p p' : Option Addr} {l l' : List Nat} {sf rm lf : Int} {dn fu : Bool}
theorem Raw.drewN (h : Raw w b p n cap l sf rm dn fu lf) (k : Nat) : Raw (w.drewN k) b p n cap l sf rm dn fu lf := ⟨h.lies, h.own, h.far⟩
/-- The row grown and laid into the struct again. -/
theorem Raw.grow (h : Raw w b p n cap l sf rm dn fu lf) (ho : w2.ownsRow 0 5 1 (.slice p' n' cap') n' (byteVals l')) (hg : w.grownBy w2 (p.map (·.block))) (hp : ∀ k, p'.map (·.block) = some k → p.map (·.block) = some k ∨ w.heap.size ≤ k) :
    Lies w2 b [.slice p n cap, .int .i64 sf, .int .i64 rm, .bool dn, .bool fu, .int .i64 lf] 48 ∧
    Raw (w2.setCell ⟨b, 0, none⟩ (.slice p' n' cap')) b p' n' cap' l' sf rm dn fu lf ∧ ∀ S : Nat → Prop, (∀ k, Mine p b k → S k) → Apart S w (w2.setCell ⟨b, 0, none⟩ (.slice p' n' cap')) := by
  have hl : Lies w2 b [.slice p n cap, .int .i64 sf, .int .i64 rm, .bool dn, .bool fu, .int .i64 lf] 48 := (hg.block b h.lies.lt (fun e => h.far e.symm)).trans h.lies
  have hf : p'.map (·.block) ≠ some b := fun e => by
    rcases hp b e with h1 | h1
    · exact h.far h1
    · have := h.lies.lt
      omega
  refine ⟨hl, ⟨hl.set 0 _, own_keep ho fun k hk => Below.heap_setCell _ _ _ _ fun e => hf (by rw [hk, e]), hf⟩, fun S hS => ?_⟩
  exact (Apart.grown hg fun k hk => hS k (.inr hk)).trans (Apart.but (hS b (.inl rfl)) (But.set b 0 _ _))
end
set_option maxRecDepth 100000 in
set_option maxHeartbeats 4000000 in
theorem appendOk : AppendOk dev := by
  rintro b S d s w ⟨p, n, cap, fu, lf, h, hf, hS⟩ ok hs
  have hn := all_len h
  have H := Lib.hid h
  have HF := Lib.hid hf
  have HS := Lib.hid hS
  have HD := Lib.hid (downR h)
  have kA := ok.all
  have kR0 := ok.room0
  have kR1 := ok.room1
  have kn : n ≤ 1048576 := by rw [hn, all_size]; exact kA
  have HE := Lib.hid (fun k c => refR (h.drewN k) c)
  have HZ := Lib.hid (size_is hn)
  cases ho : d.off with
  | true =>
    have HX := Lib.hid (append_off s ho)
    rw [HX.out]
    rw [ho] at HD HE HZ
    clear h hf hS ok hn
    go_enter Tryd.func11, Tryd.ntmps11
    go_wp2_with (first
      | (go_at_call 31; refine HD.out.mono ?_; rintro e w2 ⟨rfl, rfl⟩)
      | (go_at_call 33; refine (HE.out 0 5).mono ?_; rintro e w2 ⟨⟨x, rfl, hx⟩, hb⟩; replace hx := Lib.hid hx; replace hb := Lib.hid hb))
    go_ret
    exact ⟨⟨_, rfl, err_some (show (5 : Int) ≠ 0 by decide) (by rw [HZ.out]; exact hx.out)⟩, does_same H.out HF.out HS.out (below_drewN (k := 0) hb.out)⟩
  | false =>
    rw [ho] at HD HE HZ
    have n1 : IntKind.i64.wrap ((n : Int) + (s.size : Int)) = (n : Int) + (s.size : Int) := by rw [IntKind.wrap_i64]; omega
    have c0 := Lies.cell (i := 0) h.lies rfl
    have c2 := Lies.cell (i := 2) h.lies rfl
    by_cases hfull : d.room < (n : Int) + (s.size : Int)
    · have t1 : decide (d.room < (n : Int) + (s.size : Int)) = true := decide_eq_true hfull
      have HX := Lib.hid (append_full (d := d) (s := s) ho (by rw [← hn]; exact hfull))
      rw [HX.out]
      clear h hf hS ok hn hfull
      go_enter Tryd.func11, Tryd.ntmps11
      go_wp2_with (go_at_call 31; refine HD.out.mono ?_; rintro e w2 ⟨rfl, rfl⟩)
      go_quiet (fail)
      go_wp2_with (go_at_call 33; refine (HE.out _ 4).mono ?_; rintro e w2 ⟨⟨x, rfl, hx⟩, hb⟩; replace hx := Lib.hid hx; replace hb := Lib.hid hb)
      go_ret
      exact ⟨⟨_, rfl, err_some (show (4 : Int) ≠ 0 by decide) (by rw [HZ.out]; exact hx.out)⟩, does_same H.out HF.out HS.out (below_drewN hb.out)⟩
    have t1 : decide (d.room < (n : Int) + (s.size : Int)) = false := decide_eq_false hfull
    have hno : ¬ (d.off = false ∧ d.room - ((all d).size : Int) < (s.size : Int)) := fun k => hfull (by have := k.2; rw [← hn] at this; omega)
    have h' := h
    rw [ho] at h'
    have HBl := Lib.hid (fun k => blowsR (h'.drewN k) ho hf ok)
    cases hd : doesB d with
    | false =>
      have HX := Lib.hid (show append s d = (5, doesD d) by unfold append; rw [if_neg hno, if_neg (by rw [hd]; simp)])
      have HM := Lib.hid (show n = (all (doesD d)).size by rw [all_does]; exact hn)
      have HA := Lib.hid (all_does d)
      rw [HX.out]
      rw [hd] at HBl
      clear h h' hf hS ok hn hfull hno
      go_enter Tryd.func11, Tryd.ntmps11
      go_wp2_with (go_at_call 31; refine HD.out.mono ?_; rintro e w2 ⟨rfl, rfl⟩)
      go_quiet (fail)
      go_wp2_with fail
      refine (HBl.out _).mono ?_
      rintro e w2 ⟨rfl, ⟨fu', lf', hr, hfz⟩, hb⟩
      have HE2 := Lib.hid (refR hr 5)
      replace hb := Lib.hid (but_drewN hb)
      replace hfz := Lib.hid hfz
      replace hr := Lib.hid hr
      have HK := Lib.hid (size_is HM.out)
      obtain ⟨q, hq⟩ : ∃ q, q = size (doesD d) := ⟨_, rfl⟩
      rw [← hq] at HK
      rw [← HK.out] at HE2
      replace hq := Lib.hid hq
      clear c0 c2
      go_wp2_with (go_at_call 33; refine HE2.out.mono ?_; rintro e w3 ⟨⟨x, rfl, hx⟩, hb2⟩; replace hx := Lib.hid hx; replace hb2 := Lib.hid hb2)
      go_ret
      refine ⟨⟨_, rfl, err_some (show (5 : Int) ≠ 0 by decide) (by rw [← hq.out]; exact hx.out.mono hb.out.size)⟩, ?_⟩
      exact does_of HS.out (hr.out.below hb2.out) (by rw [HA.out]) (by rw [doesD_done]) (by rw [doesD_room]) rfl hfz.out (fun _ hk => .inl hk) ((Apart.but ((HS.out b).2 (.inl rfl)) hb.out).trans (Apart.of hb2.out))
    | true =>
      have HX := Lib.hid (show append s d = (0, { doesD d with late := (doesD d).late ++ s }) by unfold append; rw [if_neg hno, if_pos hd])
      have HA := Lib.hid (show all { doesD d with late := (doesD d).late ++ s } = all d ++ s by
        show (doesD d).done ++ ((doesD d).late ++ s) = _
        rw [← ByteArray.append_assoc, doesD_done, doesD_late]
        rfl)
      rw [HX.out]
      rw [hd] at HBl
      clear h h' hf hS ok hn hfull hno
      go_enter Tryd.func11, Tryd.ntmps11
      go_wp2_with (go_at_call 31; refine HD.out.mono ?_; rintro e w2 ⟨rfl, rfl⟩)
      go_quiet (fail)
      go_wp2_with fail
      refine (HBl.out _).mono ?_
      rintro e w2 ⟨rfl, ⟨fu', lf', hr, hfz⟩, hb⟩
      replace hb := Lib.hid (but_drewN hb)
      replace hfz := Lib.hid hfz
      replace hr := Lib.hid hr
      clear c0 c2
      have c0 := Lies.cell (i := 0) hr.out.lies rfl
      go_wp2_with (
        at_builtin
        refine put_text rfl _ _ rfl p n cap (nats (all d)) rfl hr.out.own s rfl (by omega) ?_
        intro p' cap' w3 ho3 hg3 hp3
        obtain ⟨hl3, hr3, ha3⟩ := hr.out.grow ho3 hg3 hp3
        have HR3 := Lib.hid hr3
        have HA3 := Lib.hid (ha3 S fun k hk => (HS.out k).2 hk)
        have HP3 := Lib.hid hp3
        clear c0
        have c0 := Lies.cell (i := 0) hl3 rfl
        have f0 := Lies.free hl3 0
        clear hl3 hr3 ha3 ho3 hg3 hp3)
      go_ret
      refine ⟨⟨_, rfl, err_none⟩, ?_⟩
      exact does_of HS.out HR3.out (by rw [HA.out, nats_append]) (by show _ = (((doesD d).done.size : Nat) : Int); rw [doesD_done]) (by show _ = (doesD d).room; rw [doesD_room]) rfl ⟨hfz.out.1, hfz.out.2⟩ (fun k hk => (HP3.out k hk).imp id fun h => Nat.le_trans hb.out.size h) ((Apart.but ((HS.out b).2 (.inl rfl)) hb.out).trans HA3.out)
end Go.Proofs.YtfdldjhndfohhaaDoor
