/-
  RegSame's contract: it answers true of any cells, turn and cut, out of the program's contracts and the example. The conditions: the cells lie in memory; the numbers are Go's.
-/
import Derived.Test.YtkoojfpafgkgiaaRegFold
import Derived.Test.YtkoojfpafgkgiaaRegGreat
import Derived.Test.YtkoojfpafgkgiaaRowKeep
import Derived.Deep.RegionHeldLaw
import Derived.BigQuiet
import Derived.Deep.Cut
import Derived.Deep.CutRange
namespace Go.Proofs.Ytkoojfpafgkgiaa
open Go.RowKit TextNat RegMath

theorem info_reg15 : (Try.prog.info? 28).map (fun i => (i.zero, i.size, i.bytes)) = some (some (.agg #[.int .i64 0, .int .i64 0, .string ⟨#[]⟩, .bool false, .int .i64 0]), 5, 48) := by kernel_rfl
theorem news_regs {w : World} {pp : Option Addr} {xs : List RegV} (h : RegsIn w pp xs) : ∀ (j : Nat) (u : Value), (xs.flatMap RegV.cells)[j]? = some u → ∃ a, pp = some a ∧ w.cell? (a.add j) = some u := by
  intro j u hu
  have hj : j < (xs.flatMap RegV.cells).length := (List.getElem?_eq_some_iff.1 hu).1
  rw [rcells_len] at hj
  have hi : j / 5 < xs.length := by omega
  have hx := List.getElem?_eq_getElem hi
  obtain ⟨b, off, hp, h0, h1, h2, h3, h4⟩ := h (j / 5) _ hx
  refine ⟨_, hp, ?_⟩
  have hadd : (⟨b, off, none⟩ : Addr).add j = ⟨b, off + j, none⟩ := by unfold Addr.add; split <;> simp_all
  rw [hadd]
  have key : ∀ (m : Nat) (v : Value), (RegV.cells xs[j / 5])[m]? = some v → j = j / 5 * 5 + m → w.cell? ⟨b, off + j / 5 * 5 + m, none⟩ = some v → w.cell? ⟨b, off + j, none⟩ = some u := by
    intro m v hv hm hc
    have k := rcells_at (A := xs) hx m v hv
    rw [← hm, hu] at k
    rw [Option.some.inj k, ← hc]
    congr 2
    omega
  have hm : j % 5 = 0 ∨ j % 5 = 1 ∨ j % 5 = 2 ∨ j % 5 = 3 ∨ j % 5 = 4 := by omega
  rcases hm with hm | hm | hm | hm | hm
  · exact key 0 _ rfl (by omega) h0
  · exact key 1 _ rfl (by omega) h1
  · exact key 2 _ rfl (by omega) h2
  · exact key 3 _ rfl (by omega) h3
  · exact key 4 _ rfl (by omega) h4
theorem ownR_made {w : World} {B g : Nat} {T : TypeId} (hg : w.heap[g]? = some (.cells #[] T (0, 0))) (hB : B ≤ g) : OwnR T w B (.slice (some ⟨g, 0, none⟩) 0 0) [] :=
  ⟨rfl, .inr ⟨g, 0, #[], rfl, hB, hg, Nat.le_refl _, by unfold maxLen; omega, rfl, rfl⟩⟩
theorem ownR_some {T : TypeId} {w : World} {B n : Nat} {v : Value} {A : List RegV} (h : OwnR T w B v A) (hn : n = A.length) (h0 : 0 < n) : ∃ g c, v = .slice (some ⟨g, 0, none⟩) n c := by
  subst hn
  rcases h.2 with ⟨_, h2⟩ | ⟨g, cap, cur, h3, _⟩
  · omega
  · exact ⟨g, cap, h3⟩
theorem OwnR.look {T : TypeId} {w : World} {B g n c : Nat} {A : List RegV} (h : OwnR T w B (.slice (some ⟨g, 0, none⟩) n c) A) {i : Nat} {y : RegV} (hy : A[i]? = some y) : w.cell? ⟨g, i * 5, none⟩ = some (.int .i64 y.time) ∧ w.cell? ⟨g, i * 5 + 1, none⟩ = some (.int .i64 y.region) ∧ w.cell? ⟨g, i * 5 + 2, none⟩ = some (.string y.value) ∧ w.cell? ⟨g, i * 5 + 3, none⟩ = some (.bool y.gone) ∧ w.cell? ⟨g, i * 5 + 4, none⟩ = some (.int .i64 y.life) := by
  have := (h.regs).look hy
  simpa using this
theorem ownR_but {T : TypeId} {w w' : World} {B pb : Nat} {v : Value} {A : List RegV} (h : OwnR T w B v A) (hb : But pb w w') (hn : ∀ q, v.ownBlock = some q → q ≠ pb) : OwnR T w' B v A := by
  refine ⟨h.1, ?_⟩
  rcases h.2 with h2 | ⟨g, cap, cur, rfl, h4, h5, h6⟩
  · exact .inl h2
  · exact .inr ⟨g, cap, cur, rfl, h4, (hb.block g (Array.getElem?_eq_some_iff.1 h5).1 (hn g rfl)).trans h5, h6⟩
/-- What stays while the last statement runs. -/
abbrev SSame (w : World) (A7 A13 : Nat) (v : Value) (xs : List RegV) (M : RegV) (w' : World) : Prop := Below w.heap.size w w' ∧ OwnR 28 w' w.heap.size v xs ∧ w'.cell? ⟨A7, 0, none⟩ = some (.int .i64 M.time) ∧ w'.cell? ⟨A7, 1, none⟩ = some (.int .i64 M.region) ∧ w'.cell? ⟨A7, 2, none⟩ = some (.string M.value) ∧ w'.cell? ⟨A7, 3, none⟩ = some (.bool M.gone) ∧ w'.cell? ⟨A7, 4, none⟩ = some (.int .i64 M.life) ∧ w'.cell? ⟨A13, 0, none⟩ = some (.int .i64 M.time) ∧ w'.cell? ⟨A13, 1, none⟩ = some (.int .i64 M.region) ∧ w'.cell? ⟨A13, 2, none⟩ = some (.string M.value) ∧ w'.cell? ⟨A13, 3, none⟩ = some (.bool M.gone) ∧ w'.cell? ⟨A13, 4, none⟩ = some (.int .i64 M.life)
section
variable {w w1 w2 : World} {A7 A13 g n c : Nat} {xs : List RegV} {M : RegV}
theorem SSame.drew (h : SSame w A7 A13 (.slice (some ⟨g, 0, none⟩) n c) xs M w1) : SSame w A7 A13 (.slice (some ⟨g, 0, none⟩) n c) xs M w1.drew :=
  ⟨⟨h.1.os, h.1.tape, h.1.output, h.1.size, h.1.block⟩, h.2⟩
theorem SSame.over {Z : Nat} (h : SSame w A7 A13 (.slice (some ⟨g, 0, none⟩) n c) xs M w1) (hz : w.heap.size ≤ Z ∧ A7 < Z ∧ A13 < Z ∧ g < Z) (hb : Below Z w1 w2) : SSame w A7 A13 (.slice (some ⟨g, 0, none⟩) n c) xs M w2 := by
  obtain ⟨h0, ho, h70, h71, h72, h73, h74, h130, h131, h132, h133, h134⟩ := h
  have k : ∀ {q o : Nat} {u : Value}, q < Z → w1.cell? ⟨q, o, none⟩ = some u → w2.cell? ⟨q, o, none⟩ = some u := fun hq hc => (World.cell?_of_block (a := ⟨_, _, none⟩) (hb.block _ hq)).trans hc
  refine ⟨h0.trans (hb.mono hz.1), ?_, k hz.2.1 h70, k hz.2.1 h71, k hz.2.1 h72, k hz.2.1 h73, k hz.2.1 h74, k hz.2.2.1 h130, k hz.2.2.1 h131, k hz.2.2.1 h132, k hz.2.2.1 h133, k hz.2.2.1 h134⟩
  refine ⟨ho.1, ?_⟩
  rcases ho.2 with h2 | ⟨g', cap, cur, h3, h4, h5, h6⟩
  · exact .inl h2
  · obtain ⟨rfl, _, _⟩ : g = g' ∧ _ ∧ _ := by simpa using h3
    exact .inr ⟨g, cap, cur, h3, h4, (hb.block g hz.2.2.2).trans h5, h6⟩
theorem SSame.below (h : SSame w A7 A13 (.slice (some ⟨g, 0, none⟩) n c) xs M w1) (hb : Below w1.heap.size w1 w2) : SSame w A7 A13 (.slice (some ⟨g, 0, none⟩) n c) xs M w2 := by
  refine h.over (Z := w1.heap.size) ⟨h.1.size, ?_, ?_, (World.ownsRow.lt h.2.1 g rfl).2⟩ hb
  · exact World.block_lt_of_cell? w1 ⟨A7, 0, none⟩ h.2.2.1
  · exact World.block_lt_of_cell? w1 ⟨A13, 0, none⟩ h.2.2.2.2.2.2.2.1
theorem SSame.made {o : Obj} (h : SSame w A7 A13 (.slice (some ⟨g, 0, none⟩) n c) xs M w1) : SSame w A7 A13 (.slice (some ⟨g, 0, none⟩) n c) xs M (w1.alloc o) :=
  h.below ((Below.refl _ _).alloc (Nat.le_refl _) _)
theorem SSame.made_drew {o : Obj} (h : SSame w A7 A13 (.slice (some ⟨g, 0, none⟩) n c) xs M w1.drew) : SSame w A7 A13 (.slice (some ⟨g, 0, none⟩) n c) xs M (w1.alloc o).drew :=
  SSame.drew (SSame.made (w1 := w1) ⟨⟨h.1.os, h.1.tape, h.1.output, h.1.size, h.1.block⟩, h.2⟩)
theorem SSame.row (h : SSame w A7 A13 (.slice (some ⟨g, 0, none⟩) n c) xs M w1) (hn : n = xs.length) : w1.ownsRow w.heap.size 28 5 (.slice (some ⟨g, 0, none⟩) n c) n (xs.flatMap RegV.cells) := by
  have := h.2.1
  unfold OwnR at this
  rw [← hn] at this
  exact this
theorem SSame.regs (h : SSame w A7 A13 (.slice (some ⟨g, 0, none⟩) n c) xs M w1) : RegsIn w1 (some ⟨g, 0, none⟩) xs := h.2.1.regs
theorem SSame.grown (h : SSame w A7 A13 (.slice (some ⟨g, 0, none⟩) n c) xs M w1) (hgb : w1.grownBy w2 (some g)) (ho2 : OwnR 28 w2 w.heap.size (.slice (some ⟨g, 0, none⟩) n c) xs) (hn : A7 ≠ g ∧ A13 ≠ g) : SSame w A7 A13 (.slice (some ⟨g, 0, none⟩) n c) xs M w2 := by
  obtain ⟨h0, ho, h70, h71, h72, h73, h74, h130, h131, h132, h133, h134⟩ := h
  have k : ∀ {q o : Nat} {u : Value}, q ≠ g → w1.cell? ⟨q, o, none⟩ = some u → w2.cell? ⟨q, o, none⟩ = some u := fun {q o u} hq hc => (World.cell?_of_block (a := ⟨q, o, none⟩) (hgb.block q (World.block_lt_of_cell? w1 _ hc) (fun e => hq (Option.some.inj e)))).trans hc
  exact ⟨h0.grown hgb h0.size (fun q hq => by obtain rfl := Option.some.inj hq; exact (World.ownsRow.lt ho g rfl).1), ho2, k hn.1 h70, k hn.1 h71, k hn.1 h72, k hn.1 h73, k hn.1 h74, k hn.2 h130, k hn.2 h131, k hn.2 h132, k hn.2 h133, k hn.2 h134⟩
end
theorem grown_over {Z : Nat} {w1 w2 : World} {v : Value} (h : w1.grownBy w2 v.ownBlock) (hz : Z ≤ w1.heap.size) (hv : ∀ q, v.ownBlock = some q → Z ≤ q) : Below Z w1 w2 := (Below.refl Z w1).grown h hz hv
theorem regs_one (xs : List RegV) : ∀ u ∈ xs.flatMap RegV.cells, u.oneCell' = true := fun u hu => by
  obtain ⟨a, _, ha⟩ := List.mem_flatMap.1 hu
  exact rcell_one a u ha
theorem one_regs {w : World} {B : Nat} {T : TypeId} {a : RegV} (h : Lies w B a.cells T) : RegsIn w (some ⟨B, 0, none⟩) [a] := fun i x hx => by
  have hi : i = 0 := by have := (List.getElem?_eq_some_iff.1 hx).1; simp at this; exact this
  subst hi
  obtain rfl : a = x := by simpa using hx
  exact ⟨B, 0, rfl, h.cell (i := 0) rfl, h.cell (i := 1) rfl, h.cell (i := 2) rfl, h.cell (i := 3) rfl, h.cell (i := 4) rfl⟩
theorem ownR_of {T : TypeId} {w : World} {B n : Nat} {v : Value} {ys : List RegV} (hn : n = ys.length) (h : w.ownsRow B T 5 v n (ys.flatMap RegV.cells)) : OwnR T w B v ys := by
  subst hn
  exact h
theorem own_eq {Z n c q : Nat} (h : (Value.slice (some ⟨Z, 0, none⟩) n c).ownBlock = some q) : Z ≤ q := Nat.le_of_eq (Option.some.inj h)
/-- What Merge is asked of. -/
def Asked (u : Value) (R : RegV) (w : World) : Prop := ∃ pp n c ys, u = .slice pp n c ∧ n = ys.length ∧ n ≤ c ∧ c ≤ 9223372036854775807 ∧ n ≤ 1000 ∧ RegsIn w pp ys ∧ ShortR ys ∧ mergeV ys = R
theorem asked_own {T : TypeId} {w : World} {B : Nat} {v : Value} {ys : List RegV} {R : RegV} (h : OwnR T w B v ys) (hl : ys.length ≤ 1000) (hs : ShortR ys) (hm : mergeV ys = R) : Asked v R w := by
  obtain ⟨p, c, rfl, h1⟩ := row_shape h
  refine ⟨p, _, c, ys, rfl, rfl, h1, ?_, hl, h.regs, hs, hm⟩
  rcases h.2 with ⟨h2, _⟩ | ⟨g, cap, cur, h3, _, _, _, h4, _⟩
  · simp at h2; omega
  · simp at h3; unfold maxLen at h4; omega
/-- What is left of a number, as Go reckons it. -/
theorem turn_left {t n : Int} (hn : 0 < n) : 0 ≤ (t.tmod n + n).tmod n ∧ (t.tmod n + n).tmod n < n ∧ -n < t.tmod n ∧ t.tmod n < n := by
  have h1 := Int.tmod_lt_of_pos t hn
  have h2 : -n < t.tmod n := by
    have := Int.lt_tmod_of_pos t hn
    omega
  have h3 : 0 ≤ t.tmod n + n := by omega
  exact ⟨Int.tmod_nonneg n h3, Int.tmod_lt_of_pos _ hn, h2, h1⟩
set_option maxRecDepth 100000 in
set_option maxHeartbeats 16000000 in
theorem same_true (hA : AwakeOk) (hM : MergeOk) (p : Option Addr) (c : Nat) (xs : List RegV) (tn ct : Int) (w : World) (h : RegsIn w p xs) (hc : xs.length ≤ c) (hl : c ≤ 9223372036854775807) :
    Calls Try.prog 5 #[.slice p xs.length c, .int .i64 tn, .int .i64 ct] w fun e w' => e = .returned (.bool true) ∧ Below w.heap.size w w' := by
  obtain ⟨ii, hii, hi0, hi1, hi2⟩ := info_parts info_reg15
  have HA := Lib.hid hA
  have HMe := Lib.hid hM
  have HGt := Lib.hid (fun w1 (hw : Below w.heap.size w w1) => great_ok p c xs w1 (h.grown hw) (by omega))
  have HGn := Lib.hid (fun (h : greatR xs = false) => greatR_not h)
  have HMg := Lib.hid (fun (h60 : xs.length ≤ 60) (hs : ShortR xs) w1 (hw : Below w.heap.size w w1) => hM p c xs w1 (h.grown hw) hc hl (by omega) hs)
  obtain ⟨N, hNl⟩ : ∃ N, N = xs.length := ⟨_, rfl⟩
  have HI := Lib.hid h
  have HN := Lib.hid hNl
  rw [← hNl] at hc HGt HMg ⊢
  clear h hNl hA hM
  go_enter Try.func5, Try.ntmps5
  go_wp2_with fail
  refine (HA.out w).mono ?_
  rintro e w1 ⟨rfl, hb1⟩
  have HB1 := Lib.hid hb1
  clear hb1
  go_wp2_with fail
  refine (HGt.out w1 HB1.out).mono ?_
  rintro e w2 ⟨rfl, hb1⟩
  replace HB1 := Lib.hid (HB1.out.trans (hb1.mono HB1.out.size))
  clear hb1
  cases hgr : greatR xs with
  | true =>
    clear hgr
    go_wp2
    go_ret
    exact ⟨rfl, HB1.out⟩
  | false =>
    have hN60 : N ≤ 60 := by rw [HN.out]; exact (HGn.out hgr).1
    have HSh := Lib.hid (show ShortR xs from fun x hx => by have := (HGn.out hgr).2 x hx; omega)
    clear hgr HGn
    by_cases h0 : N = 0
    · have z0 : ((N : Int) == 0) = true := by rw [beq_iff_eq]; omega
      have z0' : (N == 0) = true := by rw [beq_iff_eq]; omega
      clear h0
      go_wp2
      go_ret
      exact ⟨rfl, HB1.out⟩
    have z0 : ((N : Int) == 0) = false := by rw [beq_eq_false_iff_ne]; omega
    have z0' : (N == 0) = false := by rw [beq_eq_false_iff_ne]; omega
    have HN0 := Lib.hid (show xs ≠ [] from fun e => h0 (by rw [HN.out, e]; rfl))
    have hNp : 0 < N := by omega
    go_wp2_with fail
    refine (HMg.out hN60 HSh.out w2 HB1.out).mono ?_
    rintro e w3 ⟨rfl, hb1⟩
    replace HB1 := Lib.hid (HB1.out.trans (hb1.mono HB1.out.size))
    clear hb1
    obtain ⟨M, hM⟩ : ∃ M, M = mergeV xs := ⟨_, rfl⟩
    have HMv := Lib.hid hM
    rw [← hM]
    clear hM h0 HMg HGt
    simp only [RegV.val]
    obtain ⟨A7, hA7⟩ : ∃ A7, A7 = w3.heap.size := ⟨_, rfl⟩
    obtain ⟨W4, hW4⟩ : ∃ W4, W4 = w3.alloc (.cells #[.int .i64 M.time, .int .i64 M.region, .string M.value, .bool M.gone, .int .i64 M.life] 28) := ⟨_, rfl⟩
    have HL7 := Lib.hid (show Lies W4 A7 M.cells 28 by rw [hW4, hA7]; exact Lies.new w3 M.cells _)
    have HB4 := Lib.hid (show Below w.heap.size w W4 by rw [hW4]; exact HB1.out.alloc HB1.out.size _)
    have HA7 := Lib.hid (show w.heap.size ≤ A7 by rw [hA7]; exact HB1.out.size)
    have HW4 := Lib.hid hW4
    have HA7e := Lib.hid hA7
    -- the two numbers
    obtain ⟨e1, e2, e3, e4⟩ := turn_left (t := tn) (n := (N : Int)) (by omega)
    obtain ⟨f1, f2, f3, f4⟩ := turn_left (t := ct) (n := (N : Int)) (by omega)
    obtain ⟨r1, hr1⟩ : ∃ r, r = tn.tmod (N : Int) := ⟨_, rfl⟩
    obtain ⟨r2, hr2⟩ : ∃ r, r = ct.tmod (N : Int) := ⟨_, rfl⟩
    rw [← hr1] at e1 e2 e3 e4
    rw [← hr2] at f1 f2 f3 f4
    obtain ⟨kk, hkk⟩ : ∃ kk : Nat, (kk : Int) = (r1 + (N : Int)).tmod (N : Int) := ⟨((r1 + (N : Int)).tmod (N : Int)).toNat, by omega⟩
    obtain ⟨cc, hcc⟩ : ∃ cc : Nat, (cc : Int) = (r2 + (N : Int)).tmod (N : Int) := ⟨((r2 + (N : Int)).tmod (N : Int)).toNat, by omega⟩
    have HK := Lib.hid (show kk < N by omega)
    have HC := Lib.hid (show cc < N by omega)
    have g1 : tn.tmod (N : Int) = r1 := hr1.symm
    have g2 : ct.tmod (N : Int) = r2 := hr2.symm
    have g3 : IntKind.i64.wrap (r1 + (N : Int)) = r1 + (N : Int) := by rw [IntKind.wrap_i64]; omega
    have g4 : IntKind.i64.wrap (r2 + (N : Int)) = r2 + (N : Int) := by rw [IntKind.wrap_i64]; omega
    have g5 : (r1 + (N : Int)).tmod (N : Int) = (kk : Int) := hkk.symm
    have g6 : (r2 + (N : Int)).tmod (N : Int) = (cc : Int) := hcc.symm
    have g7 : IntKind.i64.wrap r1 = r1 := by rw [IntKind.wrap_i64]; omega
    have g8 : IntKind.i64.wrap r2 = r2 := by rw [IntKind.wrap_i64]; omega
    have g9 : IntKind.i64.wrap (kk : Int) = (kk : Int) := by rw [IntKind.wrap_i64]; omega
    have g10 : IntKind.i64.wrap (cc : Int) = (cc : Int) := by rw [IntKind.wrap_i64]; omega
    clear e1 e2 e3 e4 f1 f2 f3 f4 hr1 hr2 hkk hcc hW4 hA7 HB1
    go_wp2_with fail
    rw [← HW4.out, ← HA7e.out]
    go_quiet (fail)
    obtain ⟨W5, hW5⟩ : ∃ W5, W5 = W4.drewN nq := ⟨_, rfl⟩
    have HL5 := Lib.hid (show Lies W5 A7 M.cells 28 by rw [hW5]; exact HL7.out)
    have HB5 := Lib.hid (show Below w.heap.size w W5 by rw [hW5]; exact ⟨HB4.out.os, HB4.out.tape, HB4.out.output, HB4.out.size, HB4.out.block⟩)
    rw [← hW5]
    clear hW5 g1 g2 g3 g4 g5 g6 g7 g8 g9 g10
    obtain ⟨W6, hW6⟩ : ∃ W6, W6 = W5.alloc (.cells #[] 28) := ⟨_, rfl⟩
    have b6 : Below W5.heap.size W5 W6 := by rw [hW6]; exact (Below.refl _ _).alloc (Nat.le_refl _) _
    obtain ⟨lb, hlb⟩ : ∃ lb, lb = W5.heap.size := ⟨_, rfl⟩
    have HO6 := Lib.hid (show OwnR 28 W6 w.heap.size (.slice (some ⟨lb, 0, none⟩) 0 0) [] from ownR_made (by rw [hW6, hlb]; exact heap_alloc_new W5 _) (by rw [hlb]; exact HB5.out.size))
    have HB6 := Lib.hid (HB5.out.trans (b6.mono HB5.out.size))
    have HL6 := Lib.hid (HL5.out.below b6)
    have HLb := Lib.hid (show A7 < lb by rw [hlb]; exact Lies.lt HL5.out)
    have HLs := Lib.hid (show lb ≤ W6.heap.size by rw [hlb]; exact b6.size)
    have HW6 := Lib.hid hW6
    have HLe := Lib.hid hlb
    clear hW6 hlb b6
    go_wp2_with (rw [← HW6.out, ← HLe.out]; at_builtin; refine wpList_keep rfl _ _ 22 rfl w.heap.size 28 ii _ 5 48 Try.underlying22 hii hi0 hi1 hi2 rfl (by decide) (.slice (some ⟨lb, 0, none⟩) 0 0) 0 [] rfl HO6.out p N c (xs.flatMap RegV.cells) rfl (by rw [rcells_len, HN.out]) (news_regs (HI.out.grown HB6.out)) (fun u hu => by obtain ⟨a, _, ha⟩ := List.mem_flatMap.1 hu; exact rcell_one a u ha) (by unfold maxLen; omega) (by omega) HB6.out.size ?_; intro v7 w7 h1 h2 h3 _; have HO7 := Lib.hid (show OwnR 28 w7 w.heap.size v7 xs by unfold OwnR; rw [← HN.out]; rw [Nat.zero_add, List.nil_append] at h1; exact h1); have HB7 := Lib.hid (HB6.out.grown h2 HB6.out.size (fun q hq => (World.ownsRow.lt HO6.out q hq).1)); have HL7b := Lib.hid (show Lies w7 A7 M.cells 28 from (h2.block A7 (Lies.lt HL6.out) (fun e => by have := HLb.out; simp [Value.ownBlock] at e; omega)).trans HL6.out); have HF7 := Lib.hid (show ∀ k, v7.ownBlock = some k → A7 < k from fun k hk => by rcases h3 k hk with h5 | h5; (have := HLb.out; simp [Value.ownBlock] at h5; omega); (have := Lies.lt HL6.out; omega)); clear h1 h2 h3; obtain ⟨g, c7, rfl⟩ := ownR_some HO7.out HN.out hNp)
    have HG := Lib.hid (HF7.out g rfl)
    have HGs := Lib.hid (fun (w' : World) (h : OwnR 28 w' w.heap.size (.slice (some ⟨g, 0, none⟩) N c7) (xs.reverse)) => show g < w'.heap.size from (World.ownsRow.lt h g rfl).2)
    have HGB := Lib.hid (show w.heap.size ≤ g by have := HG.out; have := HA7.out; omega)
    go_wp2_with fail
    go_loopg [48] N (fun gh s48 wx => ∃ i : Nat, i + gh = N ∧ s48 = .int .i64 (i : Int) ∧ Hid (Below w.heap.size w wx) ∧ Hid (Lies wx A7 M.cells 28) ∧ Hid (OwnR 28 wx w.heap.size (.slice (some ⟨g, 0, none⟩) N c7) (turned15 xs i)))
    case atStart => exact ⟨0, by omega, by go_num, Lib.hid HB7.out, Lib.hid HL7b.out, Lib.hid HO7.out⟩
    case round =>
      obtain ⟨i, hi, rfl, HB, HL, HO⟩ := hrel
      rename World => W
      clear HB4 HB5 HB6 HB7 HL7 HL5 HL6 HL7b HO6 HO7 HF7 HW4 HA7e HW6 HLe HLb HLs
      by_cases hlt : i < N
      case pos =>
        have q1 : decide ((i : Int) < (N : Int)) = true := decide_eq_true (by omega)
        have q1' : decide (i < N) = true := decide_eq_true hlt
        obtain ⟨m, hm⟩ : ∃ m, m = N - 1 - i := ⟨_, rfl⟩
        have d0 : (N : Int) - 1 - (i : Int) = (m : Int) := by omega
        have d1 : (m : Int) < (N : Int) := by omega
        obtain ⟨x, hx⟩ : ∃ x, xs[m]? = some x := ⟨_, List.getElem?_eq_getElem (by rw [← HN.out]; omega)⟩
        obtain ⟨b, off, rfl, y0, y1, y2, y3, y4⟩ := (HI.out.grown HB.out) m x hx
        have HT := Lib.hid (turned15_step (xs := xs) (i := i) (x := x) (by rw [← HN.out]; exact hlt) (by rw [← HN.out, ← hm]; exact hx))
        have HTl := Lib.hid (show i < (turned15 xs i).length by rw [turned15_len (by rw [← HN.out]; omega), ← HN.out]; exact hlt)
        have HSt := Lib.hid (HO.out.set x HTl.out)
        rw [HT.out] at HSt
        have f0 := World.ownsRow.frozenAt (show W.ownsRow w.heap.size 28 5 (.slice (some ⟨g, 0, none⟩) N c7) N _ by have := HO.out; unfold OwnR at this; rw [turned15_len (by rw [← HN.out]; omega), ← HN.out] at this; exact this)
        have HIn := Lib.hid (And.intro hi hlt)
        have HGl := Lib.hid (show g < W.heap.size from cell_lt (HO.out.look (i := i) (List.getElem?_eq_getElem HTl.out)).1)
        have k0 := f0 (i * 5); have k1 := f0 (i * 5 + 1); have k2 := f0 (i * 5 + 2); have k3 := f0 (i * 5 + 3); have k4 := f0 (i * 5 + 4)
        obtain ⟨y, hy⟩ : ∃ y, (turned15 xs i)[i]? = some y := ⟨_, List.getElem?_eq_getElem HTl.out⟩
        obtain ⟨z0, z1, z2, z3, z4⟩ := HO.out.look hy
        clear f0 hm hx hi hy
        go_wp2
        have HBt := Lib.hid (but_five W g (i * 5) (i * 5 + 1) (i * 5 + 2) (i * 5 + 3) (i * 5 + 4) (.int .i64 x.time) (.int .i64 x.region) (.string x.value) (.bool x.gone) (.int .i64 x.life))
        go_roundg (N - (i + 1))
        case measure => have := HIn.out; omega
        case rel => exact ⟨i + 1, by have := HIn.out; omega, by go_num, Lib.hid (HB.out.trans ((HBt.out.below (Nat.le_of_lt HGl.out)).mono HGB.out)), Lib.hid (Lies.but HL.out HBt.out (by have := HG.out; omega)), HSt⟩
      case neg =>
        have q1 : decide ((i : Int) < (N : Int)) = false := decide_eq_false (by omega)
        have q1' : decide (i < N) = false := decide_eq_false hlt
        obtain rfl : N = i := by omega
        have HT := Lib.hid (show turned15 xs N = xs.reverse by rw [HN.out]; exact turned15_all xs)
        rw [HT.out] at HO
        obtain ⟨a, ha⟩ : ∃ a, xs[kk]? = some a := ⟨_, List.getElem?_eq_getElem (by rw [← HN.out]; exact HK.out)⟩
        obtain ⟨b, off, rfl, y0, y1, y2, y3, y4⟩ := (HI.out.grown HB.out) kk a ha
        have d1 : (kk : Int) < (N : Int) := by have := HK.out; omega
        have HAm := Lib.hid (List.mem_of_getElem? ha)
        clear ha hi hlt
        go_wp2_with fail
        obtain ⟨A13, hA13⟩ : ∃ A13, A13 = W.heap.size := ⟨_, rfl⟩
        obtain ⟨W8, hW8⟩ : ∃ W8, W8 = W.alloc (.cells #[.int .i64 a.time, .int .i64 a.region, .string a.value, .bool a.gone, .int .i64 a.life] 28) := ⟨_, rfl⟩
        have b8 : Below W.heap.size W W8 := by rw [hW8]; exact (Below.refl _ _).alloc (Nat.le_refl _) _
        have HL13 := Lib.hid (show Lies W8 A13 (oneV xs a 0).cells 28 by rw [hW8, hA13]; exact Lies.new W a.cells _)
        have HL8 := Lib.hid (HL.out.below b8)
        have HO8 := Lib.hid (HO.out.below b8)
        have HB8 := Lib.hid (HB.out.trans (b8.mono HB.out.size))
        have HA13 := Lib.hid (show A7 < A13 ∧ g < A13 ∧ w.heap.size ≤ A13 from ⟨by rw [hA13]; exact Lies.lt HL.out, by rw [hA13]; exact HGs.out W HO.out, by rw [hA13]; exact HB.out.size⟩)
        rw [← hW8, ← hA13]
        clear hW8 hA13 b8 HL HO HB HT y0 y1 y2 y3 y4
        go_loopg [68] N (fun gh s68 wx => ∃ i : Nat, i + gh = N ∧ s68 = .int .i64 (i : Int) ∧ Hid (Below w.heap.size w wx) ∧ Hid (Lies wx A7 M.cells 28) ∧ Hid (Lies wx A13 (oneV xs a i).cells 28) ∧ Hid (OwnR 28 wx w.heap.size (.slice (some ⟨g, 0, none⟩) N c7) xs.reverse))
        case atStart => exact ⟨0, by omega, by go_num, HB8, HL8, HL13, HO8⟩
        case round =>
          clear HL13 HL8 HO8 HB8
          obtain ⟨i, hi, rfl, HB, HL, HK13, HO⟩ := hrel
          rename World => W
          by_cases hlt : i < N
          case pos =>
            have q1 : decide ((i : Int) < (N : Int)) = true := decide_eq_true (by omega)
            have q1' : decide (i < N) = true := decide_eq_true hlt
            obtain ⟨x, hx⟩ : ∃ x, xs[i]? = some x := ⟨_, List.getElem?_eq_getElem (by rw [← HN.out]; omega)⟩
            obtain ⟨b', off', hp', y0, y1, y2, y3, y4⟩ := (HI.out.grown HB.out) i x hx
            obtain ⟨rfl, rfl⟩ : b' = b ∧ off' = off := by simpa using hp'.symm
            have HSp := Lib.hid (oneV_step a hx)
            have dI : (i : Int) < (N : Int) := by omega
            have HIn := Lib.hid (And.intro hi hlt)
            obtain ⟨o, ho⟩ : ∃ o, o = oneV xs a i := ⟨_, rfl⟩
            rw [← ho] at HK13 HSp
            obtain ⟨W9, hW9⟩ : ∃ W9, W9 = W.alloc (.cells #[.int .i64 x.time, .int .i64 x.region, .string x.value, .bool x.gone, .int .i64 x.life] 28) := ⟨_, rfl⟩
            obtain ⟨X, hX⟩ : ∃ X, X = W.heap.size := ⟨_, rfl⟩
            have b9 : Below W.heap.size W W9 := by rw [hW9]; exact (Below.refl _ _).alloc (Nat.le_refl _) _
            have LX := Lib.hid (show Lies W9 X x.cells 28 by rw [hW9, hX]; exact Lies.new W x.cells _)
            have L13 := Lib.hid (HK13.out.below b9)
            have c0 := LX.out.cell (i := 0) rfl; have c1 := LX.out.cell (i := 1) rfl; have c2 := LX.out.cell (i := 2) rfl; have c3 := LX.out.cell (i := 3) rfl; have c4 := LX.out.cell (i := 4) rfl
            have d0 := L13.out.cell (i := 0) rfl; have d1 := L13.out.cell (i := 1) rfl; have d2 := L13.out.cell (i := 2) rfl; have d3 := L13.out.cell (i := 3) rfl; have d4 := L13.out.cell (i := 4) rfl
            obtain ⟨WT, hWT⟩ : ∃ WT, WT = W9.alloc (.cells #[.int .i64 x.time, .int .i64 x.region, .string x.value, .bool x.gone, .int .i64 x.life, .int .i64 o.time, .int .i64 o.region, .string o.value, .bool o.gone, .int .i64 o.life] 28) := ⟨_, rfl⟩
            have bT : Below W9.heap.size W9 WT := by rw [hWT]; exact (Below.refl _ _).alloc (Nat.le_refl _) _
            have bWT := b9.trans (bT.mono b9.size)
            have HLT := Lib.hid (HL.out.below bWT)
            have HKT := Lib.hid (HK13.out.below bWT)
            have HOT := Lib.hid (HO.out.below bWT)
            have HBT := Lib.hid (HB.out.trans (bWT.mono HB.out.size))
            have HMT := Lib.hid (show Calls Try.prog 13 #[.slice (some ⟨W9.heap.size, 0, none⟩) 2 2] WT (fun e w' => e = .returned (mergeV [x, o]).val ∧ Below WT.heap.size WT w') from HMe.out (some ⟨W9.heap.size, 0, none⟩) 2 [x, o] WT (regs_two (T := 28) (by rw [hWT]; exact heap_alloc_new W9 _)) (Nat.le_refl 2) (by omega) (by show 2 ≤ 1000; omega) (ShortR.two (HSh.out x (List.mem_of_getElem? hx)) (by rw [ho]; exact oneV_short HSh.out HAm.out i)))
            have HW9 := Lib.hid hW9; have HXe := Lib.hid hX; have HWT := Lib.hid hWT
            clear hx hp' hi hlt ho hW9 hX b9 hWT bT bWT
            go_upto_region 18 with fail
            rw [← HW9.out, ← HXe.out]
            clear y0 y1 y2 y3 y4
            go_wp2_with (rw [← HWT.out]; go_at_call 13; refine HMT.out.mono ?_; rintro e wm ⟨rfl, hb⟩; rw [← HSp.out]; have HLm := Lib.hid (HLT.out.below hb); have HKm := Lib.hid (HKT.out.below hb); have HOm := Lib.hid (HOT.out.below hb); have HBm := Lib.hid (HBT.out.trans (hb.mono HBT.out.size)); obtain ⟨o2, ho2⟩ : ∃ o2, o2 = oneV xs a (i + 1) := ⟨_, rfl⟩; have HO2 := Lib.hid ho2; rw [← ho2]; simp only [RegV.val]; clear hb ho2 c0 c1 c2 c3 c4 d0 d1 d2 d3 d4; have d0 := HKm.out.cell (i := 0) rfl; have d1 := HKm.out.cell (i := 1) rfl; have d2 := HKm.out.cell (i := 2) rfl; have d3 := HKm.out.cell (i := 3) rfl; have d4 := HKm.out.cell (i := 4) rfl; have k0 := HKm.out.free 0; have k1 := HKm.out.free 1; have k2 := HKm.out.free 2; have k3 := HKm.out.free 3; have k4 := HKm.out.free 4)
            have HBt := Lib.hid (but_five wm A13 0 1 2 3 4 (.int .i64 o2.time) (.int .i64 o2.region) (.string o2.value) (.bool o2.gone) (.int .i64 o2.life))
            go_roundg (N - (i + 1))
            case measure => have := HIn.out; omega
            case rel =>
              refine ⟨i + 1, by have := HIn.out; omega, by go_num, Lib.hid (HBm.out.trans ((HBt.out.below (Nat.le_of_lt HKm.out.lt)).mono HA13.out.2.2)), Lib.hid (Lies.but HLm.out HBt.out (by have := HA13.out.1; omega)), Lib.hid ?_, Lib.hid ?_⟩
              · rw [← HO2.out]
                exact lies_five o2 HKm.out
              · exact ownR_but HOm.out HBt.out (fun q hq => by simp [Value.ownBlock] at hq; have := HA13.out.2.1; omega)
          case neg =>
            have q1 : decide ((i : Int) < (N : Int)) = false := decide_eq_false (by omega)
            have q1' : decide (i < N) = false := decide_eq_false hlt
            obtain rfl : N = i := by omega
            rw [show oneV xs a N = M by rw [HMv.out, HN.out]; exact oneV_all HAm.out] at HK13
            clear hlt hi
            have HZ := Lib.hid (show A7 < W.heap.size ∧ A13 < W.heap.size ∧ g < W.heap.size from ⟨HL.out.lt, HK13.out.lt, HGs.out W HO.out⟩)
            have s0 : SSame w A7 A13 (.slice (some ⟨g, 0, none⟩) N c7) xs.reverse M W := ⟨HB.out, HO.out, HL.out.cell (i := 0) rfl, HL.out.cell (i := 1) rfl, HL.out.cell (i := 2) rfl, HL.out.cell (i := 3) rfl, HL.out.cell (i := 4) rfl, HK13.out.cell (i := 0) rfl, HK13.out.cell (i := 1) rfl, HK13.out.cell (i := 2) rfl, HK13.out.cell (i := 3) rfl, HK13.out.cell (i := 4) rfl⟩
            have HS0 := Lib.hid s0
            have e1 : (kk : Int) ≤ (N : Int) := by have := HK.out; omega
            have e2 : (kk : Int) ≤ (c : Int) := by have := HK.out; omega
            have e3 : ¬ c = kk := by have := HK.out; omega
            have e4 : (N : Int) ≤ (c : Int) := by omega
            have e5 : (cc : Int) ≤ (N : Int) := by have := HC.out; omega
            have e6 : (cc : Int) ≤ (c : Int) := by have := HC.out; omega
            have e7 : ¬ c = cc := by have := HC.out; omega
            have HWl := Lib.hid HB.out.size
            obtain ⟨R1, hR1⟩ : ∃ R, R = mergeV (xs.take cc) := ⟨_, rfl⟩
            obtain ⟨R2, hR2⟩ : ∃ R, R = mergeV (xs.drop cc) := ⟨_, rfl⟩
            have HR1 := Lib.hid hR1
            have HR2 := Lib.hid hR2
            have HMp := Lib.hid (show 0 < cc → mergeV [R1, R2] = M from fun h0 => by rw [hR1, hR2, HMv.out]; exact mergeV_parts h0 (by rw [← HN.out]; exact HC.out))
            have HRs := Lib.hid (show 0 < cc → ShortR [R1, R2] from fun h0 => by have hc := HC.out; rw [HN.out] at hc; exact ShortR.two (by rw [hR1]; exact (HSh.out.mem (fun y hy => List.mem_of_mem_take hy)).one (fun e => by have := congrArg List.length e; rw [List.length_take, List.length_nil] at this; omega)) (by rw [hR2]; exact (HSh.out.mem (fun y hy => List.mem_of_mem_drop hy)).one (fun e => by have := congrArg List.length e; rw [List.length_drop, List.length_nil] at this; omega)))
            have HMt := Lib.hid (show mergeV (xs.drop kk ++ xs.take kk) = M by rw [HMv.out]; exact mergeV_turn xs kk)
            have HMb := Lib.hid (show mergeV xs.reverse = M by rw [HMv.out]; exact mergeV_back xs)
            have HMa := Lib.hid (show mergeV (xs.reverse ++ [M]) = M by rw [HMv.out]; exact mergeV_again HN0.out)
            have HAsk := Lib.hid (fun (u : Value) (R : RegV) (w' : World) (h : Asked u R w') => show Calls Try.prog 13 #[u] w' (fun e w'' => e = .returned (.agg #[.int .i64 R.time, .int .i64 R.region, .string R.value, .bool R.gone, .int .i64 R.life]) ∧ Below w'.heap.size w' w'') by
              obtain ⟨pp, n, c', ys, rfl, rfl, h1, h2, h3, h4, hs, rfl⟩ := h
              exact HMe.out pp c' ys w' h4 h1 h2 h3 hs)
            have HPi := Lib.hid (fun (a n : Nat) (w' : World) (h : Below w.heap.size w w') => (HI.out.grown h).piece a n)
            have HDk := Lib.hid (show ∀ w', Below w.heap.size w w' → RegsIn w' (some ⟨b, off + kk * 5, none⟩) (xs.drop kk) from fun w' h => by
              have := HPi.out kk N w' h
              rw [List.take_of_length_le (by rw [List.length_drop, ← HN.out]; omega)] at this
              exact this)
            have HTk := Lib.hid (show ∀ w', Below w.heap.size w w' → RegsIn w' (some ⟨b, off, none⟩) (xs.take kk) from fun w' h => by
              have := HPi.out 0 kk w' h
              simpa using this)
            have HDc := Lib.hid (show ∀ w', Below w.heap.size w w' → Asked (.slice (some ⟨b, off + cc * 5, none⟩) (N - cc) (c - cc)) R2 w' from fun w' h => by
              have := HPi.out cc N w' h
              rw [List.take_of_length_le (by rw [List.length_drop, ← HN.out]; omega)] at this
              exact ⟨_, _, _, xs.drop cc, rfl, by rw [List.length_drop, HN.out], by omega, by omega, by omega, this, HSh.out.mem (fun y hy => List.mem_of_mem_drop hy), HR2.out.symm⟩)
            have HTc := Lib.hid (show ∀ w', Below w.heap.size w w' → Asked (.slice (some ⟨b, off, none⟩) cc c) R1 w' from fun w' h => by
              have := HPi.out 0 cc w' h
              exact ⟨_, _, _, xs.take cc, rfl, by rw [List.length_take, ← HN.out]; have := HC.out; omega, by have := HC.out; omega, by omega, by have := HC.out; omega, by simpa using this, HSh.out.mem (fun y hy => List.mem_of_mem_take hy), HR1.out.symm⟩)
            have HLd := Lib.hid (show ((xs.drop kk).flatMap RegV.cells).length = (N - kk) * 5 by rw [rcells_len, List.length_drop, ← HN.out])
            have HLt := Lib.hid (show ((xs.take kk).flatMap RegV.cells).length = kk * 5 by rw [rcells_len, List.length_take, ← HN.out, Nat.min_eq_left (by have := HK.out; omega)])
            have HZf := Lib.hid (show w.heap.size ≤ W.heap.size ∧ A7 < W.heap.size ∧ A13 < W.heap.size ∧ g < W.heap.size from ⟨HWl.out, HZ.out⟩)
            have HE1 := Lib.hid (show OwnR 28 (W.alloc (.cells #[] 28)).drew W.heap.size (.slice (some ⟨W.heap.size, 0, none⟩) 0 0) [] from ownR_made (w := W.alloc (.cells #[] 28)) (heap_alloc_new W _) (Nat.le_refl _))
            have HE2 := Lib.hid (show W.heap.size ≤ (W.alloc (.cells #[] 28)).drew.heap.size by show _ ≤ (W.alloc _).heap.size; simp)
            have HNe := Lib.hid (show A7 ≠ g ∧ A13 ≠ g from ⟨by have := HG.out; omega, by have := HA13.out; omega⟩)
            have HBk := Lib.hid (show ∀ w', SSame w A7 A13 (.slice (some ⟨g, 0, none⟩) N c7) xs.reverse M w' → Asked (.slice (some ⟨g, 0, none⟩) N c7) M w' from fun w' h => asked_own h.2.1 (by rw [List.length_reverse, ← HN.out]; omega) (HSh.out.mem fun y hy => List.mem_reverse.1 hy) HMb.out)
            have HQT := Lib.hid (show ∀ (v : Value) (w6 : World), w6.ownsRow W.heap.size 28 5 v (0 + (N - kk) + kk) ([] ++ (xs.drop kk).flatMap RegV.cells ++ (xs.take kk).flatMap RegV.cells) → Asked v M w6 from fun v w6 h1 => by
              have hk := HK.out
              have hl : (xs.drop kk ++ xs.take kk).length = 0 + (N - kk) + kk := by rw [List.length_append, List.length_drop, List.length_take, ← HN.out]; omega
              refine asked_own (T := 28) (B := W.heap.size) (ys := xs.drop kk ++ xs.take kk) (ownR_of hl.symm ?_) (by rw [hl]; omega) (HSh.out.mem fun y hy => (List.mem_append.1 hy).elim List.mem_of_mem_drop List.mem_of_mem_take) HMt.out
              rw [List.flatMap_append]
              rw [List.nil_append] at h1
              exact h1)
            have q := fun w => eql_reg M M w
            rw [decide_eq_true rfl] at q
            simp only [RegV.val] at q
            have HNk := Lib.hid (show N - kk + kk = N by have := HK.out; omega)
            clear HL HK13 HO hR1 hR2
            have HNr := Lib.hid (show N = xs.reverse.length by rw [List.length_reverse, HN.out])
            have HQA := Lib.hid (show ∀ (v : Value) (w9 : World), w9.ownsRow w.heap.size 28 5 v (N + 1) (xs.reverse.flatMap RegV.cells ++ [M].flatMap RegV.cells) → Asked v M w9 from fun v w9 h1 => by
              have hl : (xs.reverse ++ [M]).length = N + 1 := by rw [List.length_append, ← HNr.out]; rfl
              refine asked_own (T := 28) (B := w.heap.size) (ys := xs.reverse ++ [M]) (ownR_of hl.symm ?_) (by rw [hl]; omega) (HSh.out.mem fun y hy => (List.mem_append.1 hy).elim List.mem_reverse.1 fun e => by rw [List.mem_singleton.1 e, HMv.out]; exact mergeV_mem HN0.out) HMa.out
              rw [List.flatMap_append]
              exact h1)
            by_cases hc0 : cc = 0
            · have qc : ((cc : Int) == 0) = true := by rw [beq_iff_eq]; omega
              have qc' : (cc == 0) = true := by rw [beq_iff_eq]; exact hc0
              have qc2 : decide (cc = 0) = true := decide_eq_true hc0
              clear hc0
              go_wp2_with fail
              refine wp_region_held_drew (S := fun w' => Below w.heap.size w w' ∧ OwnR 28 w' w.heap.size (.slice (some ⟨g, 0, none⟩) N c7) xs.reverse ∧ w'.cell? ⟨A7, 0, none⟩ = some (.int .i64 M.time) ∧ w'.cell? ⟨A7, 1, none⟩ = some (.int .i64 M.region) ∧ w'.cell? ⟨A7, 2, none⟩ = some (.string M.value) ∧ w'.cell? ⟨A7, 3, none⟩ = some (.bool M.gone) ∧ w'.cell? ⟨A7, 4, none⟩ = some (.int .i64 M.life) ∧ w'.cell? ⟨A13, 0, none⟩ = some (.int .i64 M.time) ∧ w'.cell? ⟨A13, 1, none⟩ = some (.int .i64 M.region) ∧ w'.cell? ⟨A13, 2, none⟩ = some (.string M.value) ∧ w'.cell? ⟨A13, 3, none⟩ = some (.bool M.gone) ∧ w'.cell? ⟨A13, 4, none⟩ = some (.int .i64 M.life)) (by kernel_rfl) (SSame.drew s0) (fun hs0 => ?_)
              refine wpAnyH_take (i := 1) (v := ?_) (by simp only [List.getElem?_toArray, List.getElem?_cons_succ, List.getElem?_cons_zero]; rfl) (by kernel_rfl) (by kernel_rfl) (by kernel_rfl) (by intro _ _ _ h; exact h) (Or.inl ⟨by rfl, ?_⟩) (by assumption) ?_
              rotate_left
              · (intro w hSw; (try dsimp only at hSw); go_simp <;> with_reducible rfl)
              try simp only [Act.put, List.setIfInBounds_toArray, List.set_cons_zero, List.set_cons_succ]
              refine wpAnyH_take (i := 2) (v := ?_) (by simp only [List.getElem?_toArray, List.getElem?_cons_succ, List.getElem?_cons_zero]; rfl) (by kernel_rfl) (by kernel_rfl) (by kernel_rfl) (by intro _ _ _ h; exact h) (Or.inl ⟨by rfl, ?_⟩) (by assumption) ?_
              rotate_left
              · (intro w hSw; (try dsimp only at hSw); go_simp <;> with_reducible rfl)
              try simp only [Act.put, List.setIfInBounds_toArray, List.set_cons_zero, List.set_cons_succ]
              refine wpAnyH_take (i := 3) (v := ?_) (by simp only [List.getElem?_toArray, List.getElem?_cons_succ, List.getElem?_cons_zero]; rfl) (by kernel_rfl) (by kernel_rfl) (by kernel_rfl) (by intro _ _ _ h; exact h) (Or.inl ⟨by rfl, ?_⟩) (by assumption) ?_
              rotate_left
              · (intro w hSw; (try dsimp only at hSw); go_simp <;> with_reducible rfl)
              try simp only [Act.put, List.setIfInBounds_toArray, List.set_cons_zero, List.set_cons_succ]
              refine wpAnyH_take (i := 5) (v := ?_) (by simp only [List.getElem?_toArray, List.getElem?_cons_succ, List.getElem?_cons_zero]; rfl) (by kernel_rfl) (by kernel_rfl) (by kernel_rfl) (by intro _ _ _ h; exact h) (Or.inl ⟨by rfl, ?_⟩) (by assumption) ?_
              rotate_left
              · (intro w hSw; (try dsimp only at hSw); go_simp <;> with_reducible rfl)
              try simp only [Act.put, List.setIfInBounds_toArray, List.set_cons_zero, List.set_cons_succ]
              refine wpAnyH_take (i := 6) (v := ?_) (by simp only [List.getElem?_toArray, List.getElem?_cons_succ, List.getElem?_cons_zero]; rfl) (by kernel_rfl) (by kernel_rfl) (by kernel_rfl) (by intro _ _ _ h; exact h) (Or.inl ⟨by rfl, ?_⟩) (by assumption) ?_
              rotate_left
              · (intro w hSw; (try dsimp only at hSw); go_simp <;> with_reducible rfl)
              try simp only [Act.put, List.setIfInBounds_toArray, List.set_cons_zero, List.set_cons_succ]
              refine wpAnyH_take (i := 7) (v := ?_) (by simp only [List.getElem?_toArray, List.getElem?_cons_succ, List.getElem?_cons_zero]; rfl) (by kernel_rfl) (by kernel_rfl) (by kernel_rfl) (by intro _ _ _ h; exact h) (Or.inl ⟨by rfl, ?_⟩) (by assumption) ?_
              rotate_left
              · (intro w hSw; (try dsimp only at hSw); go_simp <;> with_reducible rfl)
              try simp only [Act.put, List.setIfInBounds_toArray, List.set_cons_zero, List.set_cons_succ]
              refine wpAnyH_take (i := 10) (v := ?_) (by simp only [List.getElem?_toArray, List.getElem?_cons_succ, List.getElem?_cons_zero]; rfl) (by kernel_rfl) (by kernel_rfl) (by kernel_rfl) (by intro _ _ _ h; exact h) (Or.inl ⟨by rfl, ?_⟩) (by assumption) ?_
              rotate_left
              · (intro w hSw; (try dsimp only at hSw); go_simp <;> with_reducible rfl)
              try simp only [Act.put, List.setIfInBounds_toArray, List.set_cons_zero, List.set_cons_succ]
              refine wpAnyH_ready (rs := [0]) (by kernel_rfl) (by simp) ?_
              refine AllReadyH.cons rfl (fun K hK => ?_) AllReadyH.nil
              go_simp
              refine hK.out _ _ (by first | assumption | exact SSame.over (by assumption) HZf.out hbz | exact SSame.drew (by assumption) | exact SSame.below (by assumption) hbb | exact SSame.made (by assumption) | exact SSame.made_drew (by assumption)) (fun hs1 => ?_)
              clear hK K hs0
              refine wpAnyH_ready (rs := [4]) (by kernel_rfl) (by simp) ?_
              refine AllReadyH.cons rfl (fun K hK => ?_) AllReadyH.nil
              refine step_keep (by simp [Region.wanted]) (.tmp 77) (.tmp 80) 22 rfl W.heap.size 28 ii _ 5 48 Try.underlying22 hii hi0 hi1 hi2 rfl (by decide) _ 0 [] rfl HE1.out _ (N - kk) (c - kk) ((xs.drop kk).flatMap RegV.cells) rfl HLd.out (news_regs (HDk.out _ (And.left (b := _) (by assumption)))) (regs_one _) (by unfold maxLen; omega) (by omega) HE2.out ?_
              intro v5 w5 h1 hgb _ _
              have HO5 := Lib.hid h1
              have hbz := grown_over hgb HE2.out (fun q hq => own_eq hq)
              have HW5 := Lib.hid (Nat.le_trans HE2.out hgb.size)
              clear h1 hgb
              refine hK.out _ _ (by first | assumption | exact SSame.over (by assumption) HZf.out hbz | exact SSame.drew (by assumption) | exact SSame.below (by assumption) hbb | exact SSame.made (by assumption) | exact SSame.made_drew (by assumption)) (fun hs2 => ?_)
              clear hK K hs1
              refine wpAnyH_ready (rs := [8]) (by kernel_rfl) (by simp) ?_
              refine AllReadyH.cons rfl (fun K hK => ?_) AllReadyH.nil
              refine step_keep (by simp [Region.wanted]) (.tmp 81) (.tmp 84) 22 rfl W.heap.size 28 ii _ 5 48 Try.underlying22 hii hi0 hi1 hi2 rfl (by decide) _ (0 + (N - kk)) _ rfl HO5.out _ kk c ((xs.take kk).flatMap RegV.cells) rfl HLt.out (news_regs (HTk.out _ (And.left (b := _) (by assumption)))) (regs_one _) (by unfold maxLen; omega) (by omega) HW5.out ?_
              intro v6 w6 h1 hgb _ _
              have hbz := grown_over hgb HW5.out (fun q hq => (World.ownsRow.lt HO5.out q hq).1)
              have HQ6 := Lib.hid (HQT.out v6 w6 h1)
              clear h1 hgb
              refine hK.out _ _ (by first | assumption | exact SSame.over (by assumption) HZf.out hbz | exact SSame.drew (by assumption) | exact SSame.below (by assumption) hbb | exact SSame.made (by assumption) | exact SSame.made_drew (by assumption)) (fun hs3 => ?_)
              clear hK K hs2
              refine wpAnyH_ready (rs := [9]) (by kernel_rfl) (by simp) ?_
              refine AllReadyH.cons rfl (fun K hK => ?_) AllReadyH.nil
              go_simp
              go_wp2_with (go_at_call 13; refine (HAsk.out _ _ _ (by first | exact HQ9.out | exact HQ6.out | exact HBk.out _ (by assumption) | exact HTc.out _ (And.left (b := _) (by assumption)) | exact HDc.out _ (And.left (b := _) (by assumption)))).mono ?_; rintro e wn ⟨rfl, hbb⟩)
              refine hK.out _ _ (by first | assumption | exact SSame.over (by assumption) HZf.out hbz | exact SSame.drew (by assumption) | exact SSame.below (by assumption) hbb | exact SSame.made (by assumption) | exact SSame.made_drew (by assumption)) (fun hs4 => ?_)
              clear hK K hs3
              refine wpAnyH_take (i := 11) (v := ?_) (by simp only [List.getElem?_toArray, List.getElem?_cons_succ, List.getElem?_cons_zero]; rfl) (by kernel_rfl) (by kernel_rfl) (by kernel_rfl) (by intro _ _ _ h; exact h) (Or.inl ⟨by rfl, ?_⟩) (by assumption) ?_
              rotate_left
              · (intro w hSw; (try dsimp only at hSw); go_simp <;> with_reducible rfl)
              try simp only [Act.put, List.setIfInBounds_toArray, List.set_cons_zero, List.set_cons_succ]
              refine wpAnyH_take (i := 12) (v := ?_) (by simp only [List.getElem?_toArray, List.getElem?_cons_succ, List.getElem?_cons_zero]; rfl) (by kernel_rfl) (by kernel_rfl) (by kernel_rfl) (by intro _ _ _ h; exact h) (Or.inl ⟨by rfl, ?_⟩) (by assumption) ?_
              rotate_left
              · (intro w hSw; (try dsimp only at hSw); go_simp <;> with_reducible rfl)
              try simp only [Act.put, List.setIfInBounds_toArray, List.set_cons_zero, List.set_cons_succ]
              refine wpAnyH_take (i := 13) (v := ?_) (by simp only [List.getElem?_toArray, List.getElem?_cons_succ, List.getElem?_cons_zero]; rfl) (by kernel_rfl) (by kernel_rfl) (by kernel_rfl) (by intro _ _ _ h; exact h) (Or.inl ⟨by rfl, ?_⟩) (by assumption) ?_
              rotate_left
              · (intro w hSw; (try dsimp only at hSw); go_simp <;> with_reducible rfl)
              try simp only [Act.put, List.setIfInBounds_toArray, List.set_cons_zero, List.set_cons_succ]
              refine wpAnyH_take (i := 15) (v := ?_) (by simp only [List.getElem?_toArray, List.getElem?_cons_succ, List.getElem?_cons_zero]; rfl) (by kernel_rfl) (by kernel_rfl) (by kernel_rfl) (by intro _ _ _ h; exact h) (Or.inl ⟨by rfl, ?_⟩) (by assumption) ?_
              rotate_left
              · (intro w hSw; (try dsimp only at hSw); go_simp <;> with_reducible rfl)
              try simp only [Act.put, List.setIfInBounds_toArray, List.set_cons_zero, List.set_cons_succ]
              refine wpAnyH_ready (rs := [14]) (by kernel_rfl) (by simp) ?_
              refine AllReadyH.cons rfl (fun K hK => ?_) AllReadyH.nil
              go_simp
              go_wp2_with (go_at_call 13; refine (HAsk.out _ _ _ (by first | exact HQ9.out | exact HQ6.out | exact HBk.out _ (by assumption) | exact HTc.out _ (And.left (b := _) (by assumption)) | exact HDc.out _ (And.left (b := _) (by assumption)))).mono ?_; rintro e wn ⟨rfl, hbb⟩)
              refine hK.out _ _ (by first | assumption | exact SSame.over (by assumption) HZf.out hbz | exact SSame.drew (by assumption) | exact SSame.below (by assumption) hbb | exact SSame.made (by assumption) | exact SSame.made_drew (by assumption)) (fun hs5 => ?_)
              clear hK K hs4
              refine wpAnyH_take (i := 16) (v := ?_) (by simp only [List.getElem?_toArray, List.getElem?_cons_succ, List.getElem?_cons_zero]; rfl) (by kernel_rfl) (by kernel_rfl) (by kernel_rfl) (by intro _ _ _ h; exact h) (Or.inl ⟨by rfl, ?_⟩) (by assumption) ?_
              rotate_left
              · (intro w hSw; (try dsimp only at hSw); go_simp <;> with_reducible rfl)
              try simp only [Act.put, List.setIfInBounds_toArray, List.set_cons_zero, List.set_cons_succ]
              refine wpAnyH_take (i := 17) (v := ?_) (by simp only [List.getElem?_toArray, List.getElem?_cons_succ, List.getElem?_cons_zero]; rfl) (by kernel_rfl) (by kernel_rfl) (by kernel_rfl) (by intro _ _ _ h; exact h) (Or.inl ⟨by rfl, ?_⟩) (by assumption) ?_
              rotate_left
              · (intro w hSw; (try dsimp only at hSw); go_simp <;> with_reducible rfl)
              try simp only [Act.put, List.setIfInBounds_toArray, List.set_cons_zero, List.set_cons_succ]
              refine wpAnyH_take (i := 18) (v := ?_) (by simp only [List.getElem?_toArray, List.getElem?_cons_succ, List.getElem?_cons_zero]; rfl) (by kernel_rfl) (by kernel_rfl) (by kernel_rfl) (by intro _ _ _ h; exact h) (Or.inl ⟨by rfl, ?_⟩) (by assumption) ?_
              rotate_left
              · (intro w hSw; (try dsimp only at hSw); go_simp <;> with_reducible rfl)
              try simp only [Act.put, List.setIfInBounds_toArray, List.set_cons_zero, List.set_cons_succ]
              refine wpAnyH_take (i := 19) (v := ?_) (by simp only [List.getElem?_toArray, List.getElem?_cons_succ, List.getElem?_cons_zero]; rfl) (by kernel_rfl) (by kernel_rfl) (by kernel_rfl) (by intro _ _ _ h; exact h) (Or.inl ⟨by rfl, ?_⟩) (by assumption) ?_
              rotate_left
              · (intro w hSw; (try dsimp only at hSw); go_simp <;> with_reducible rfl)
              try simp only [Act.put, List.setIfInBounds_toArray, List.set_cons_zero, List.set_cons_succ]
              refine wpAnyH_take (i := 20) (v := ?_) (by simp only [List.getElem?_toArray, List.getElem?_cons_succ, List.getElem?_cons_zero]; rfl) (by kernel_rfl) (by kernel_rfl) (by kernel_rfl) (by intro _ _ _ h; exact h) (Or.inl ⟨by rfl, ?_⟩) (by assumption) ?_
              rotate_left
              · (intro w hSw; (try dsimp only at hSw); go_simp <;> with_reducible rfl)
              try simp only [Act.put, List.setIfInBounds_toArray, List.set_cons_zero, List.set_cons_succ]
              refine wpAnyH_take (i := 21) (v := ?_) (by simp only [List.getElem?_toArray, List.getElem?_cons_succ, List.getElem?_cons_zero]; rfl) (by kernel_rfl) (by kernel_rfl) (by kernel_rfl) (by intro _ _ _ h; exact h) (Or.inl ⟨by rfl, ?_⟩) (by assumption) ?_
              rotate_left
              · (intro w hSw; (try dsimp only at hSw); go_simp <;> with_reducible rfl)
              try simp only [Act.put, List.setIfInBounds_toArray, List.set_cons_zero, List.set_cons_succ]
              refine wpAnyH_take (i := 22) (v := ?_) (by simp only [List.getElem?_toArray, List.getElem?_cons_succ, List.getElem?_cons_zero]; rfl) (by kernel_rfl) (by kernel_rfl) (by kernel_rfl) (by intro _ _ _ h; exact h) (Or.inl ⟨by rfl, ?_⟩) (by assumption) ?_
              rotate_left
              · (intro w hSw; (try dsimp only at hSw); go_simp <;> with_reducible rfl)
              try simp only [Act.put, List.setIfInBounds_toArray, List.set_cons_zero, List.set_cons_succ]
              refine wpAnyH_take (i := 23) (v := ?_) (by simp only [List.getElem?_toArray, List.getElem?_cons_succ, List.getElem?_cons_zero]; rfl) (by kernel_rfl) (by kernel_rfl) (by kernel_rfl) (by intro _ _ _ h; exact h) (Or.inl ⟨by rfl, ?_⟩) (by assumption) ?_
              rotate_left
              · (intro w hSw; (try dsimp only at hSw); go_simp <;> with_reducible rfl)
              try simp only [Act.put, List.setIfInBounds_toArray, List.set_cons_zero, List.set_cons_succ]
              refine wpAnyH_take (i := 24) (v := ?_) (by simp only [List.getElem?_toArray, List.getElem?_cons_succ, List.getElem?_cons_zero]; rfl) (by kernel_rfl) (by kernel_rfl) (by kernel_rfl) (by intro _ _ _ h; exact h) (Or.inl ⟨by rfl, ?_⟩) (by assumption) ?_
              rotate_left
              · (intro w hSw; (try dsimp only at hSw); go_simp <;> with_reducible rfl)
              try simp only [Act.put, List.setIfInBounds_toArray, List.set_cons_zero, List.set_cons_succ]
              refine wpAnyH_take (i := 25) (v := ?_) (by simp only [List.getElem?_toArray, List.getElem?_cons_succ, List.getElem?_cons_zero]; rfl) (by kernel_rfl) (by kernel_rfl) (by kernel_rfl) (by intro _ _ _ h; exact h) (Or.inl ⟨by rfl, ?_⟩) (by assumption) ?_
              rotate_left
              · (intro w hSw; (try dsimp only at hSw); go_simp <;> with_reducible rfl)
              try simp only [Act.put, List.setIfInBounds_toArray, List.set_cons_zero, List.set_cons_succ]
              refine wpAnyH_take (i := 26) (v := ?_) (by simp only [List.getElem?_toArray, List.getElem?_cons_succ, List.getElem?_cons_zero]; rfl) (by kernel_rfl) (by kernel_rfl) (by kernel_rfl) (by intro _ _ _ h; exact h) (Or.inl ⟨by rfl, ?_⟩) (by assumption) ?_
              rotate_left
              · (intro w hSw; (try dsimp only at hSw); go_simp <;> with_reducible rfl)
              try simp only [Act.put, List.setIfInBounds_toArray, List.set_cons_zero, List.set_cons_succ]
              refine wpAnyH_take (i := 27) (v := undef) (by simp only [List.getElem?_toArray, List.getElem?_cons_succ, List.getElem?_cons_zero]; rfl) (by kernel_rfl) (by kernel_rfl) (by kernel_rfl) (by intro _ _ _ h; exact h) (Or.inr ⟨by rfl, rfl⟩) (by assumption) ?_
              try simp only [Act.put, List.setIfInBounds_toArray, List.set_cons_zero, List.set_cons_succ]
              refine wpAnyH_take (i := 28) (v := undef) (by simp only [List.getElem?_toArray, List.getElem?_cons_succ, List.getElem?_cons_zero]; rfl) (by kernel_rfl) (by kernel_rfl) (by kernel_rfl) (by intro _ _ _ h; exact h) (Or.inr ⟨by rfl, rfl⟩) (by assumption) ?_
              try simp only [Act.put, List.setIfInBounds_toArray, List.set_cons_zero, List.set_cons_succ]
              refine wpAnyH_take (i := 29) (v := undef) (by simp only [List.getElem?_toArray, List.getElem?_cons_succ, List.getElem?_cons_zero]; rfl) (by kernel_rfl) (by kernel_rfl) (by kernel_rfl) (by intro _ _ _ h; exact h) (Or.inr ⟨by rfl, rfl⟩) (by assumption) ?_
              try simp only [Act.put, List.setIfInBounds_toArray, List.set_cons_zero, List.set_cons_succ]
              refine wpAnyH_take (i := 30) (v := undef) (by simp only [List.getElem?_toArray, List.getElem?_cons_succ, List.getElem?_cons_zero]; rfl) (by kernel_rfl) (by kernel_rfl) (by kernel_rfl) (by intro _ _ _ h; exact h) (Or.inr ⟨by rfl, rfl⟩) (by assumption) ?_
              try simp only [Act.put, List.setIfInBounds_toArray, List.set_cons_zero, List.set_cons_succ]
              refine wpAnyH_take (i := 31) (v := undef) (by simp only [List.getElem?_toArray, List.getElem?_cons_succ, List.getElem?_cons_zero]; rfl) (by kernel_rfl) (by kernel_rfl) (by kernel_rfl) (by intro _ _ _ h; exact h) (Or.inr ⟨by rfl, rfl⟩) (by assumption) ?_
              try simp only [Act.put, List.setIfInBounds_toArray, List.set_cons_zero, List.set_cons_succ]
              refine wpAnyH_take (i := 32) (v := undef) (by simp only [List.getElem?_toArray, List.getElem?_cons_succ, List.getElem?_cons_zero]; rfl) (by kernel_rfl) (by kernel_rfl) (by kernel_rfl) (by intro _ _ _ h; exact h) (Or.inr ⟨by rfl, rfl⟩) (by assumption) ?_
              try simp only [Act.put, List.setIfInBounds_toArray, List.set_cons_zero, List.set_cons_succ]
              refine wpAnyH_take (i := 33) (v := undef) (by simp only [List.getElem?_toArray, List.getElem?_cons_succ, List.getElem?_cons_zero]; rfl) (by kernel_rfl) (by kernel_rfl) (by kernel_rfl) (by intro _ _ _ h; exact h) (Or.inr ⟨by rfl, rfl⟩) (by assumption) ?_
              try simp only [Act.put, List.setIfInBounds_toArray, List.set_cons_zero, List.set_cons_succ]
              refine wpAnyH_take (i := 34) (v := undef) (by simp only [List.getElem?_toArray, List.getElem?_cons_succ, List.getElem?_cons_zero]; rfl) (by kernel_rfl) (by kernel_rfl) (by kernel_rfl) (by intro _ _ _ h; exact h) (Or.inr ⟨by rfl, rfl⟩) (by assumption) ?_
              try simp only [Act.put, List.setIfInBounds_toArray, List.set_cons_zero, List.set_cons_succ]
              refine wpAnyH_take (i := 35) (v := undef) (by simp only [List.getElem?_toArray, List.getElem?_cons_succ, List.getElem?_cons_zero]; rfl) (by kernel_rfl) (by kernel_rfl) (by kernel_rfl) (by intro _ _ _ h; exact h) (Or.inr ⟨by rfl, rfl⟩) (by assumption) ?_
              try simp only [Act.put, List.setIfInBounds_toArray, List.set_cons_zero, List.set_cons_succ]
              refine wpAnyH_take (i := 36) (v := undef) (by simp only [List.getElem?_toArray, List.getElem?_cons_succ, List.getElem?_cons_zero]; rfl) (by kernel_rfl) (by kernel_rfl) (by kernel_rfl) (by intro _ _ _ h; exact h) (Or.inr ⟨by rfl, rfl⟩) (by assumption) ?_
              try simp only [Act.put, List.setIfInBounds_toArray, List.set_cons_zero, List.set_cons_succ]
              refine wpAnyH_take (i := 37) (v := undef) (by simp only [List.getElem?_toArray, List.getElem?_cons_succ, List.getElem?_cons_zero]; rfl) (by kernel_rfl) (by kernel_rfl) (by kernel_rfl) (by intro _ _ _ h; exact h) (Or.inr ⟨by rfl, rfl⟩) (by assumption) ?_
              try simp only [Act.put, List.setIfInBounds_toArray, List.set_cons_zero, List.set_cons_succ]
              refine wpAnyH_take (i := 38) (v := undef) (by simp only [List.getElem?_toArray, List.getElem?_cons_succ, List.getElem?_cons_zero]; rfl) (by kernel_rfl) (by kernel_rfl) (by kernel_rfl) (by intro _ _ _ h; exact h) (Or.inr ⟨by rfl, rfl⟩) (by assumption) ?_
              try simp only [Act.put, List.setIfInBounds_toArray, List.set_cons_zero, List.set_cons_succ]
              refine wpAnyH_take (i := 39) (v := ?_) (by simp only [List.getElem?_toArray, List.getElem?_cons_succ, List.getElem?_cons_zero]; rfl) (by kernel_rfl) (by kernel_rfl) (by kernel_rfl) (by intro _ _ _ h; exact h) (Or.inl ⟨by rfl, ?_⟩) (by assumption) ?_
              rotate_left
              · (intro w hSw; (try dsimp only at hSw); go_simp <;> with_reducible rfl)
              try simp only [Act.put, List.setIfInBounds_toArray, List.set_cons_zero, List.set_cons_succ]
              refine wpAnyH_take (i := 40) (v := ?_) (by simp only [List.getElem?_toArray, List.getElem?_cons_succ, List.getElem?_cons_zero]; rfl) (by kernel_rfl) (by kernel_rfl) (by kernel_rfl) (by intro _ _ _ h; exact h) (Or.inl ⟨by rfl, ?_⟩) (by assumption) ?_
              rotate_left
              · (intro w hSw; (try dsimp only at hSw); go_simp <;> with_reducible rfl)
              try simp only [Act.put, List.setIfInBounds_toArray, List.set_cons_zero, List.set_cons_succ]
              refine wpAnyH_take (i := 41) (v := ?_) (by simp only [List.getElem?_toArray, List.getElem?_cons_succ, List.getElem?_cons_zero]; rfl) (by kernel_rfl) (by kernel_rfl) (by kernel_rfl) (by intro _ _ _ h; exact h) (Or.inl ⟨by rfl, ?_⟩) (by assumption) ?_
              rotate_left
              · (intro w hSw; (try dsimp only at hSw); go_simp <;> with_reducible rfl)
              try simp only [Act.put, List.setIfInBounds_toArray, List.set_cons_zero, List.set_cons_succ]
              refine wpAnyH_take (i := 42) (v := ?_) (by simp only [List.getElem?_toArray, List.getElem?_cons_succ, List.getElem?_cons_zero]; rfl) (by kernel_rfl) (by kernel_rfl) (by kernel_rfl) (by intro _ _ _ h; exact h) (Or.inl ⟨by rfl, ?_⟩) (by assumption) ?_
              rotate_left
              · (intro w hSw; (try dsimp only at hSw); go_simp <;> with_reducible rfl)
              try simp only [Act.put, List.setIfInBounds_toArray, List.set_cons_zero, List.set_cons_succ]
              refine wpAnyH_take (i := 43) (v := ?_) (by simp only [List.getElem?_toArray, List.getElem?_cons_succ, List.getElem?_cons_zero]; rfl) (by kernel_rfl) (by kernel_rfl) (by kernel_rfl) (by intro _ _ _ h; exact h) (Or.inl ⟨by rfl, ?_⟩) (by assumption) ?_
              rotate_left
              · (intro w hSw; (try dsimp only at hSw); go_simp <;> with_reducible rfl)
              try simp only [Act.put, List.setIfInBounds_toArray, List.set_cons_zero, List.set_cons_succ]
              refine wpAnyH_take (i := 47) (v := ?_) (by simp only [List.getElem?_toArray, List.getElem?_cons_succ, List.getElem?_cons_zero]; rfl) (by kernel_rfl) (by kernel_rfl) (by kernel_rfl) (by intro _ _ _ h; exact h) (Or.inl ⟨by rfl, ?_⟩) (by assumption) ?_
              rotate_left
              · (intro w hSw; (try dsimp only at hSw); go_simp <;> with_reducible rfl)
              try simp only [Act.put, List.setIfInBounds_toArray, List.set_cons_zero, List.set_cons_succ]
              refine wpAnyH_ready (rs := [44]) (by kernel_rfl) (by simp) ?_
              refine AllReadyH.cons rfl (fun K hK => ?_) AllReadyH.nil
              go_simp
              refine hK.out _ _ (by first | assumption | exact SSame.over (by assumption) HZf.out hbz | exact SSame.drew (by assumption) | exact SSame.below (by assumption) hbb | exact SSame.made (by assumption) | exact SSame.made_drew (by assumption)) (fun hs6 => ?_)
              clear hK K hs5
              refine wpAnyH_ready (rs := [45]) (by kernel_rfl) (by simp) ?_
              refine AllReadyH.cons rfl (fun K hK => ?_) AllReadyH.nil
              refine step_keep (by simp [Region.wanted, yielded]) (.tmp 119) (.tmp 121) 22 rfl w.heap.size 28 ii _ 5 48 Try.underlying22 hii hi0 hi1 hi2 rfl (by decide) (.slice (some ⟨g, 0, none⟩) N c7) N (xs.reverse.flatMap RegV.cells) rfl (SSame.row (by assumption) HNr.out) _ 1 1 ([M].flatMap RegV.cells) rfl rfl (news_regs (one_regs (T := 28) (heap_alloc_new _ _))) (regs_one _) (by unfold maxLen; omega) (by omega) (Below.size (And.left (b := _) (by assumption))) ?_
              intro v9 w9 h1 hgb _ hkp
              have hs9 : SSame w A7 A13 (.slice (some ⟨g, 0, none⟩) N c7) xs.reverse M w9 := SSame.grown (by assumption) hgb (ownR_of HNr.out hkp) HNe.out
              have HQ9 := Lib.hid (HQA.out v9 w9 h1)
              clear h1 hgb hkp
              refine hK.out _ _ (by first | assumption | exact SSame.over (by assumption) HZf.out hbz | exact SSame.drew (by assumption) | exact SSame.below (by assumption) hbb | exact SSame.made (by assumption) | exact SSame.made_drew (by assumption)) (fun hs7 => ?_)
              clear hK K hs6
              refine wpAnyH_ready (rs := [46]) (by kernel_rfl) (by simp) ?_
              refine AllReadyH.cons rfl (fun K hK => ?_) AllReadyH.nil
              go_simp
              go_wp2_with (go_at_call 13; refine (HAsk.out _ _ _ (by first | exact HQ9.out | exact HQ6.out | exact HBk.out _ (by assumption) | exact HTc.out _ (And.left (b := _) (by assumption)) | exact HDc.out _ (And.left (b := _) (by assumption)))).mono ?_; rintro e wn ⟨rfl, hbb⟩)
              refine hK.out _ _ (by first | assumption | exact SSame.over (by assumption) HZf.out hbz | exact SSame.drew (by assumption) | exact SSame.below (by assumption) hbb | exact SSame.made (by assumption) | exact SSame.made_drew (by assumption)) (fun hs8 => ?_)
              clear hK K hs7
              refine wpAnyH_take (i := 48) (v := ?_) (by simp only [List.getElem?_toArray, List.getElem?_cons_succ, List.getElem?_cons_zero]; rfl) (by kernel_rfl) (by kernel_rfl) (by kernel_rfl) (by intro _ _ _ h; exact h) (Or.inl ⟨by rfl, ?_⟩) (by assumption) ?_
              rotate_left
              · (intro w hSw; (try dsimp only at hSw); go_simp <;> with_reducible rfl)
              try simp only [Act.put, List.setIfInBounds_toArray, List.set_cons_zero, List.set_cons_succ]
              refine wpAnyH_take (i := 49) (v := ?_) (by simp only [List.getElem?_toArray, List.getElem?_cons_succ, List.getElem?_cons_zero]; rfl) (by kernel_rfl) (by kernel_rfl) (by kernel_rfl) (by intro _ _ _ h; exact h) (Or.inl ⟨by rfl, ?_⟩) (by assumption) ?_
              rotate_left
              · (intro w hSw; (try dsimp only at hSw); go_simp <;> with_reducible rfl)
              try simp only [Act.put, List.setIfInBounds_toArray, List.set_cons_zero, List.set_cons_succ]
              refine wpAnyH_take (i := 50) (v := ?_) (by simp only [List.getElem?_toArray, List.getElem?_cons_succ, List.getElem?_cons_zero]; rfl) (by kernel_rfl) (by kernel_rfl) (by kernel_rfl) (by intro _ _ _ h; exact h) (Or.inl ⟨by rfl, ?_⟩) (by assumption) ?_
              rotate_left
              · (intro w hSw; (try dsimp only at hSw); go_simp <;> with_reducible rfl)
              try simp only [Act.put, List.setIfInBounds_toArray, List.set_cons_zero, List.set_cons_succ]
              refine wpAnyH_done (by kernel_rfl) ?_ _
              have hz : SSame w A7 A13 (.slice (some ⟨g, 0, none⟩) N c7) xs.reverse M wn := by assumption
              have HBz := Lib.hid hz.1
              clear hz
              go_wp2
              go_ret
              exact ⟨rfl, HBz.out⟩
            · have qc : ((cc : Int) == 0) = false := by rw [beq_eq_false_iff_ne]; omega
              have qc' : (cc == 0) = false := by rw [beq_eq_false_iff_ne]; exact hc0
              have qc2 : decide (cc = 0) = false := decide_eq_false hc0
              have HL2 := Lib.hid (fun (wk : World) => show Asked (.slice (some ⟨wk.heap.size, 0, none⟩) 2 2) M (wk.alloc (.cells #[.int .i64 R1.time, .int .i64 R1.region, .string R1.value, .bool R1.gone, .int .i64 R1.life, .int .i64 R2.time, .int .i64 R2.region, .string R2.value, .bool R2.gone, .int .i64 R2.life] 28)) from ⟨_, _, _, [R1, R2], rfl, rfl, Nat.le_refl _, by omega, by omega, regs_two (T := 28) (heap_alloc_new wk _), HRs.out (by omega), HMp.out (by omega)⟩)
              clear hc0
              go_wp2_with fail
              refine wp_region_held_drew (S := fun w' => Below w.heap.size w w' ∧ OwnR 28 w' w.heap.size (.slice (some ⟨g, 0, none⟩) N c7) xs.reverse ∧ w'.cell? ⟨A7, 0, none⟩ = some (.int .i64 M.time) ∧ w'.cell? ⟨A7, 1, none⟩ = some (.int .i64 M.region) ∧ w'.cell? ⟨A7, 2, none⟩ = some (.string M.value) ∧ w'.cell? ⟨A7, 3, none⟩ = some (.bool M.gone) ∧ w'.cell? ⟨A7, 4, none⟩ = some (.int .i64 M.life) ∧ w'.cell? ⟨A13, 0, none⟩ = some (.int .i64 M.time) ∧ w'.cell? ⟨A13, 1, none⟩ = some (.int .i64 M.region) ∧ w'.cell? ⟨A13, 2, none⟩ = some (.string M.value) ∧ w'.cell? ⟨A13, 3, none⟩ = some (.bool M.gone) ∧ w'.cell? ⟨A13, 4, none⟩ = some (.int .i64 M.life)) (by kernel_rfl) (SSame.drew s0) (fun hs0 => ?_)
              refine wpAnyH_take (i := 1) (v := ?_) (by simp only [List.getElem?_toArray, List.getElem?_cons_succ, List.getElem?_cons_zero]; rfl) (by kernel_rfl) (by kernel_rfl) (by kernel_rfl) (by intro _ _ _ h; exact h) (Or.inl ⟨by rfl, ?_⟩) (by assumption) ?_
              rotate_left
              · (intro w hSw; (try dsimp only at hSw); go_simp <;> with_reducible rfl)
              try simp only [Act.put, List.setIfInBounds_toArray, List.set_cons_zero, List.set_cons_succ]
              refine wpAnyH_take (i := 2) (v := ?_) (by simp only [List.getElem?_toArray, List.getElem?_cons_succ, List.getElem?_cons_zero]; rfl) (by kernel_rfl) (by kernel_rfl) (by kernel_rfl) (by intro _ _ _ h; exact h) (Or.inl ⟨by rfl, ?_⟩) (by assumption) ?_
              rotate_left
              · (intro w hSw; (try dsimp only at hSw); go_simp <;> with_reducible rfl)
              try simp only [Act.put, List.setIfInBounds_toArray, List.set_cons_zero, List.set_cons_succ]
              refine wpAnyH_take (i := 3) (v := ?_) (by simp only [List.getElem?_toArray, List.getElem?_cons_succ, List.getElem?_cons_zero]; rfl) (by kernel_rfl) (by kernel_rfl) (by kernel_rfl) (by intro _ _ _ h; exact h) (Or.inl ⟨by rfl, ?_⟩) (by assumption) ?_
              rotate_left
              · (intro w hSw; (try dsimp only at hSw); go_simp <;> with_reducible rfl)
              try simp only [Act.put, List.setIfInBounds_toArray, List.set_cons_zero, List.set_cons_succ]
              refine wpAnyH_take (i := 5) (v := ?_) (by simp only [List.getElem?_toArray, List.getElem?_cons_succ, List.getElem?_cons_zero]; rfl) (by kernel_rfl) (by kernel_rfl) (by kernel_rfl) (by intro _ _ _ h; exact h) (Or.inl ⟨by rfl, ?_⟩) (by assumption) ?_
              rotate_left
              · (intro w hSw; (try dsimp only at hSw); go_simp <;> with_reducible rfl)
              try simp only [Act.put, List.setIfInBounds_toArray, List.set_cons_zero, List.set_cons_succ]
              refine wpAnyH_take (i := 6) (v := ?_) (by simp only [List.getElem?_toArray, List.getElem?_cons_succ, List.getElem?_cons_zero]; rfl) (by kernel_rfl) (by kernel_rfl) (by kernel_rfl) (by intro _ _ _ h; exact h) (Or.inl ⟨by rfl, ?_⟩) (by assumption) ?_
              rotate_left
              · (intro w hSw; (try dsimp only at hSw); go_simp <;> with_reducible rfl)
              try simp only [Act.put, List.setIfInBounds_toArray, List.set_cons_zero, List.set_cons_succ]
              refine wpAnyH_take (i := 7) (v := ?_) (by simp only [List.getElem?_toArray, List.getElem?_cons_succ, List.getElem?_cons_zero]; rfl) (by kernel_rfl) (by kernel_rfl) (by kernel_rfl) (by intro _ _ _ h; exact h) (Or.inl ⟨by rfl, ?_⟩) (by assumption) ?_
              rotate_left
              · (intro w hSw; (try dsimp only at hSw); go_simp <;> with_reducible rfl)
              try simp only [Act.put, List.setIfInBounds_toArray, List.set_cons_zero, List.set_cons_succ]
              refine wpAnyH_take (i := 10) (v := ?_) (by simp only [List.getElem?_toArray, List.getElem?_cons_succ, List.getElem?_cons_zero]; rfl) (by kernel_rfl) (by kernel_rfl) (by kernel_rfl) (by intro _ _ _ h; exact h) (Or.inl ⟨by rfl, ?_⟩) (by assumption) ?_
              rotate_left
              · (intro w hSw; (try dsimp only at hSw); go_simp <;> with_reducible rfl)
              try simp only [Act.put, List.setIfInBounds_toArray, List.set_cons_zero, List.set_cons_succ]
              refine wpAnyH_ready (rs := [0]) (by kernel_rfl) (by simp) ?_
              refine AllReadyH.cons rfl (fun K hK => ?_) AllReadyH.nil
              go_simp
              refine hK.out _ _ (by first | assumption | exact SSame.over (by assumption) HZf.out hbz | exact SSame.drew (by assumption) | exact SSame.below (by assumption) hbb | exact SSame.made (by assumption) | exact SSame.made_drew (by assumption)) (fun hs1 => ?_)
              clear hK K hs0
              refine wpAnyH_ready (rs := [4]) (by kernel_rfl) (by simp) ?_
              refine AllReadyH.cons rfl (fun K hK => ?_) AllReadyH.nil
              refine step_keep (by simp [Region.wanted]) (.tmp 77) (.tmp 80) 22 rfl W.heap.size 28 ii _ 5 48 Try.underlying22 hii hi0 hi1 hi2 rfl (by decide) _ 0 [] rfl HE1.out _ (N - kk) (c - kk) ((xs.drop kk).flatMap RegV.cells) rfl HLd.out (news_regs (HDk.out _ (And.left (b := _) (by assumption)))) (regs_one _) (by unfold maxLen; omega) (by omega) HE2.out ?_
              intro v5 w5 h1 hgb _ _
              have HO5 := Lib.hid h1
              have hbz := grown_over hgb HE2.out (fun q hq => own_eq hq)
              have HW5 := Lib.hid (Nat.le_trans HE2.out hgb.size)
              clear h1 hgb
              refine hK.out _ _ (by first | assumption | exact SSame.over (by assumption) HZf.out hbz | exact SSame.drew (by assumption) | exact SSame.below (by assumption) hbb | exact SSame.made (by assumption) | exact SSame.made_drew (by assumption)) (fun hs2 => ?_)
              clear hK K hs1
              refine wpAnyH_ready (rs := [8]) (by kernel_rfl) (by simp) ?_
              refine AllReadyH.cons rfl (fun K hK => ?_) AllReadyH.nil
              refine step_keep (by simp [Region.wanted]) (.tmp 81) (.tmp 84) 22 rfl W.heap.size 28 ii _ 5 48 Try.underlying22 hii hi0 hi1 hi2 rfl (by decide) _ (0 + (N - kk)) _ rfl HO5.out _ kk c ((xs.take kk).flatMap RegV.cells) rfl HLt.out (news_regs (HTk.out _ (And.left (b := _) (by assumption)))) (regs_one _) (by unfold maxLen; omega) (by omega) HW5.out ?_
              intro v6 w6 h1 hgb _ _
              have hbz := grown_over hgb HW5.out (fun q hq => (World.ownsRow.lt HO5.out q hq).1)
              have HQ6 := Lib.hid (HQT.out v6 w6 h1)
              clear h1 hgb
              refine hK.out _ _ (by first | assumption | exact SSame.over (by assumption) HZf.out hbz | exact SSame.drew (by assumption) | exact SSame.below (by assumption) hbb | exact SSame.made (by assumption) | exact SSame.made_drew (by assumption)) (fun hs3 => ?_)
              clear hK K hs2
              refine wpAnyH_ready (rs := [9]) (by kernel_rfl) (by simp) ?_
              refine AllReadyH.cons rfl (fun K hK => ?_) AllReadyH.nil
              go_simp
              go_wp2_with (go_at_call 13; refine (HAsk.out _ _ _ (by first | exact HQ9.out | exact HQ6.out | exact HBk.out _ (by assumption) | exact HTc.out _ (And.left (b := _) (by assumption)) | exact HDc.out _ (And.left (b := _) (by assumption)))).mono ?_; rintro e wn ⟨rfl, hbb⟩)
              refine hK.out _ _ (by first | assumption | exact SSame.over (by assumption) HZf.out hbz | exact SSame.drew (by assumption) | exact SSame.below (by assumption) hbb | exact SSame.made (by assumption) | exact SSame.made_drew (by assumption)) (fun hs4 => ?_)
              clear hK K hs3
              refine wpAnyH_take (i := 11) (v := ?_) (by simp only [List.getElem?_toArray, List.getElem?_cons_succ, List.getElem?_cons_zero]; rfl) (by kernel_rfl) (by kernel_rfl) (by kernel_rfl) (by intro _ _ _ h; exact h) (Or.inl ⟨by rfl, ?_⟩) (by assumption) ?_
              rotate_left
              · (intro w hSw; (try dsimp only at hSw); go_simp <;> with_reducible rfl)
              try simp only [Act.put, List.setIfInBounds_toArray, List.set_cons_zero, List.set_cons_succ]
              refine wpAnyH_take (i := 12) (v := ?_) (by simp only [List.getElem?_toArray, List.getElem?_cons_succ, List.getElem?_cons_zero]; rfl) (by kernel_rfl) (by kernel_rfl) (by kernel_rfl) (by intro _ _ _ h; exact h) (Or.inl ⟨by rfl, ?_⟩) (by assumption) ?_
              rotate_left
              · (intro w hSw; (try dsimp only at hSw); go_simp <;> with_reducible rfl)
              try simp only [Act.put, List.setIfInBounds_toArray, List.set_cons_zero, List.set_cons_succ]
              refine wpAnyH_take (i := 13) (v := ?_) (by simp only [List.getElem?_toArray, List.getElem?_cons_succ, List.getElem?_cons_zero]; rfl) (by kernel_rfl) (by kernel_rfl) (by kernel_rfl) (by intro _ _ _ h; exact h) (Or.inl ⟨by rfl, ?_⟩) (by assumption) ?_
              rotate_left
              · (intro w hSw; (try dsimp only at hSw); go_simp <;> with_reducible rfl)
              try simp only [Act.put, List.setIfInBounds_toArray, List.set_cons_zero, List.set_cons_succ]
              refine wpAnyH_take (i := 15) (v := ?_) (by simp only [List.getElem?_toArray, List.getElem?_cons_succ, List.getElem?_cons_zero]; rfl) (by kernel_rfl) (by kernel_rfl) (by kernel_rfl) (by intro _ _ _ h; exact h) (Or.inl ⟨by rfl, ?_⟩) (by assumption) ?_
              rotate_left
              · (intro w hSw; (try dsimp only at hSw); go_simp <;> with_reducible rfl)
              try simp only [Act.put, List.setIfInBounds_toArray, List.set_cons_zero, List.set_cons_succ]
              refine wpAnyH_ready (rs := [14]) (by kernel_rfl) (by simp) ?_
              refine AllReadyH.cons rfl (fun K hK => ?_) AllReadyH.nil
              go_simp
              go_wp2_with (go_at_call 13; refine (HAsk.out _ _ _ (by first | exact HQ9.out | exact HQ6.out | exact HBk.out _ (by assumption) | exact HTc.out _ (And.left (b := _) (by assumption)) | exact HDc.out _ (And.left (b := _) (by assumption)))).mono ?_; rintro e wn ⟨rfl, hbb⟩)
              refine hK.out _ _ (by first | assumption | exact SSame.over (by assumption) HZf.out hbz | exact SSame.drew (by assumption) | exact SSame.below (by assumption) hbb | exact SSame.made (by assumption) | exact SSame.made_drew (by assumption)) (fun hs5 => ?_)
              clear hK K hs4
              refine wpAnyH_take (i := 16) (v := ?_) (by simp only [List.getElem?_toArray, List.getElem?_cons_succ, List.getElem?_cons_zero]; rfl) (by kernel_rfl) (by kernel_rfl) (by kernel_rfl) (by intro _ _ _ h; exact h) (Or.inl ⟨by rfl, ?_⟩) (by assumption) ?_
              rotate_left
              · (intro w hSw; (try dsimp only at hSw); go_simp <;> with_reducible rfl)
              try simp only [Act.put, List.setIfInBounds_toArray, List.set_cons_zero, List.set_cons_succ]
              refine wpAnyH_take (i := 17) (v := ?_) (by simp only [List.getElem?_toArray, List.getElem?_cons_succ, List.getElem?_cons_zero]; rfl) (by kernel_rfl) (by kernel_rfl) (by kernel_rfl) (by intro _ _ _ h; exact h) (Or.inl ⟨by rfl, ?_⟩) (by assumption) ?_
              rotate_left
              · (intro w hSw; (try dsimp only at hSw); go_simp <;> with_reducible rfl)
              try simp only [Act.put, List.setIfInBounds_toArray, List.set_cons_zero, List.set_cons_succ]
              refine wpAnyH_take (i := 18) (v := ?_) (by simp only [List.getElem?_toArray, List.getElem?_cons_succ, List.getElem?_cons_zero]; rfl) (by kernel_rfl) (by kernel_rfl) (by kernel_rfl) (by intro _ _ _ h; exact h) (Or.inl ⟨by rfl, ?_⟩) (by assumption) ?_
              rotate_left
              · (intro w hSw; (try dsimp only at hSw); go_simp <;> with_reducible rfl)
              try simp only [Act.put, List.setIfInBounds_toArray, List.set_cons_zero, List.set_cons_succ]
              refine wpAnyH_take (i := 19) (v := ?_) (by simp only [List.getElem?_toArray, List.getElem?_cons_succ, List.getElem?_cons_zero]; rfl) (by kernel_rfl) (by kernel_rfl) (by kernel_rfl) (by intro _ _ _ h; exact h) (Or.inl ⟨by rfl, ?_⟩) (by assumption) ?_
              rotate_left
              · (intro w hSw; (try dsimp only at hSw); go_simp <;> with_reducible rfl)
              try simp only [Act.put, List.setIfInBounds_toArray, List.set_cons_zero, List.set_cons_succ]
              refine wpAnyH_take (i := 20) (v := ?_) (by simp only [List.getElem?_toArray, List.getElem?_cons_succ, List.getElem?_cons_zero]; rfl) (by kernel_rfl) (by kernel_rfl) (by kernel_rfl) (by intro _ _ _ h; exact h) (Or.inl ⟨by rfl, ?_⟩) (by assumption) ?_
              rotate_left
              · (intro w hSw; (try dsimp only at hSw); go_simp <;> with_reducible rfl)
              try simp only [Act.put, List.setIfInBounds_toArray, List.set_cons_zero, List.set_cons_succ]
              refine wpAnyH_take (i := 21) (v := ?_) (by simp only [List.getElem?_toArray, List.getElem?_cons_succ, List.getElem?_cons_zero]; rfl) (by kernel_rfl) (by kernel_rfl) (by kernel_rfl) (by intro _ _ _ h; exact h) (Or.inl ⟨by rfl, ?_⟩) (by assumption) ?_
              rotate_left
              · (intro w hSw; (try dsimp only at hSw); go_simp <;> with_reducible rfl)
              try simp only [Act.put, List.setIfInBounds_toArray, List.set_cons_zero, List.set_cons_succ]
              refine wpAnyH_take (i := 22) (v := ?_) (by simp only [List.getElem?_toArray, List.getElem?_cons_succ, List.getElem?_cons_zero]; rfl) (by kernel_rfl) (by kernel_rfl) (by kernel_rfl) (by intro _ _ _ h; exact h) (Or.inl ⟨by rfl, ?_⟩) (by assumption) ?_
              rotate_left
              · (intro w hSw; (try dsimp only at hSw); go_simp <;> with_reducible rfl)
              try simp only [Act.put, List.setIfInBounds_toArray, List.set_cons_zero, List.set_cons_succ]
              refine wpAnyH_take (i := 23) (v := ?_) (by simp only [List.getElem?_toArray, List.getElem?_cons_succ, List.getElem?_cons_zero]; rfl) (by kernel_rfl) (by kernel_rfl) (by kernel_rfl) (by intro _ _ _ h; exact h) (Or.inl ⟨by rfl, ?_⟩) (by assumption) ?_
              rotate_left
              · (intro w hSw; (try dsimp only at hSw); go_simp <;> with_reducible rfl)
              try simp only [Act.put, List.setIfInBounds_toArray, List.set_cons_zero, List.set_cons_succ]
              refine wpAnyH_take (i := 24) (v := ?_) (by simp only [List.getElem?_toArray, List.getElem?_cons_succ, List.getElem?_cons_zero]; rfl) (by kernel_rfl) (by kernel_rfl) (by kernel_rfl) (by intro _ _ _ h; exact h) (Or.inl ⟨by rfl, ?_⟩) (by assumption) ?_
              rotate_left
              · (intro w hSw; (try dsimp only at hSw); go_simp <;> with_reducible rfl)
              try simp only [Act.put, List.setIfInBounds_toArray, List.set_cons_zero, List.set_cons_succ]
              refine wpAnyH_take (i := 25) (v := ?_) (by simp only [List.getElem?_toArray, List.getElem?_cons_succ, List.getElem?_cons_zero]; rfl) (by kernel_rfl) (by kernel_rfl) (by kernel_rfl) (by intro _ _ _ h; exact h) (Or.inl ⟨by rfl, ?_⟩) (by assumption) ?_
              rotate_left
              · (intro w hSw; (try dsimp only at hSw); go_simp <;> with_reducible rfl)
              try simp only [Act.put, List.setIfInBounds_toArray, List.set_cons_zero, List.set_cons_succ]
              refine wpAnyH_take (i := 26) (v := ?_) (by simp only [List.getElem?_toArray, List.getElem?_cons_succ, List.getElem?_cons_zero]; rfl) (by kernel_rfl) (by kernel_rfl) (by kernel_rfl) (by intro _ _ _ h; exact h) (Or.inl ⟨by rfl, ?_⟩) (by assumption) ?_
              rotate_left
              · (intro w hSw; (try dsimp only at hSw); go_simp <;> with_reducible rfl)
              try simp only [Act.put, List.setIfInBounds_toArray, List.set_cons_zero, List.set_cons_succ]
              refine wpAnyH_take (i := 27) (v := ?_) (by simp only [List.getElem?_toArray, List.getElem?_cons_succ, List.getElem?_cons_zero]; rfl) (by kernel_rfl) (by kernel_rfl) (by kernel_rfl) (by intro _ _ _ h; exact h) (Or.inl ⟨by rfl, ?_⟩) (by assumption) ?_
              rotate_left
              · (intro w hSw; (try dsimp only at hSw); go_simp <;> with_reducible rfl)
              try simp only [Act.put, List.setIfInBounds_toArray, List.set_cons_zero, List.set_cons_succ]
              refine wpAnyH_take (i := 28) (v := ?_) (by simp only [List.getElem?_toArray, List.getElem?_cons_succ, List.getElem?_cons_zero]; rfl) (by kernel_rfl) (by kernel_rfl) (by kernel_rfl) (by intro _ _ _ h; exact h) (Or.inl ⟨by rfl, ?_⟩) (by assumption) ?_
              rotate_left
              · (intro w hSw; (try dsimp only at hSw); go_simp <;> with_reducible rfl)
              try simp only [Act.put, List.setIfInBounds_toArray, List.set_cons_zero, List.set_cons_succ]
              refine wpAnyH_take (i := 29) (v := ?_) (by simp only [List.getElem?_toArray, List.getElem?_cons_succ, List.getElem?_cons_zero]; rfl) (by kernel_rfl) (by kernel_rfl) (by kernel_rfl) (by intro _ _ _ h; exact h) (Or.inl ⟨by rfl, ?_⟩) (by assumption) ?_
              rotate_left
              · (intro w hSw; (try dsimp only at hSw); go_simp <;> with_reducible rfl)
              try simp only [Act.put, List.setIfInBounds_toArray, List.set_cons_zero, List.set_cons_succ]
              refine wpAnyH_take (i := 31) (v := ?_) (by simp only [List.getElem?_toArray, List.getElem?_cons_succ, List.getElem?_cons_zero]; rfl) (by kernel_rfl) (by kernel_rfl) (by kernel_rfl) (by intro _ _ _ h; exact h) (Or.inl ⟨by rfl, ?_⟩) (by assumption) ?_
              rotate_left
              · (intro w hSw; (try dsimp only at hSw); go_simp <;> with_reducible rfl)
              try simp only [Act.put, List.setIfInBounds_toArray, List.set_cons_zero, List.set_cons_succ]
              refine wpAnyH_take (i := 32) (v := ?_) (by simp only [List.getElem?_toArray, List.getElem?_cons_succ, List.getElem?_cons_zero]; rfl) (by kernel_rfl) (by kernel_rfl) (by kernel_rfl) (by intro _ _ _ h; exact h) (Or.inl ⟨by rfl, ?_⟩) (by assumption) ?_
              rotate_left
              · (intro w hSw; (try dsimp only at hSw); go_simp <;> with_reducible rfl)
              try simp only [Act.put, List.setIfInBounds_toArray, List.set_cons_zero, List.set_cons_succ]
              refine wpAnyH_take (i := 33) (v := ?_) (by simp only [List.getElem?_toArray, List.getElem?_cons_succ, List.getElem?_cons_zero]; rfl) (by kernel_rfl) (by kernel_rfl) (by kernel_rfl) (by intro _ _ _ h; exact h) (Or.inl ⟨by rfl, ?_⟩) (by assumption) ?_
              rotate_left
              · (intro w hSw; (try dsimp only at hSw); go_simp <;> with_reducible rfl)
              try simp only [Act.put, List.setIfInBounds_toArray, List.set_cons_zero, List.set_cons_succ]
              refine wpAnyH_take (i := 37) (v := ?_) (by simp only [List.getElem?_toArray, List.getElem?_cons_succ, List.getElem?_cons_zero]; rfl) (by kernel_rfl) (by kernel_rfl) (by kernel_rfl) (by intro _ _ _ h; exact h) (Or.inl ⟨by rfl, ?_⟩) (by assumption) ?_
              rotate_left
              · (intro w hSw; (try dsimp only at hSw); go_simp <;> with_reducible rfl)
              try simp only [Act.put, List.setIfInBounds_toArray, List.set_cons_zero, List.set_cons_succ]
              refine wpAnyH_ready (rs := [30]) (by kernel_rfl) (by simp) ?_
              refine AllReadyH.cons rfl (fun K hK => ?_) AllReadyH.nil
              go_simp
              go_wp2_with (go_at_call 13; refine (HAsk.out _ _ _ (by first | exact HQ9.out | exact HQ6.out | exact HBk.out _ (by assumption) | exact HTc.out _ (And.left (b := _) (by assumption)) | exact HDc.out _ (And.left (b := _) (by assumption)))).mono ?_; rintro e wn ⟨rfl, hbb⟩)
              refine hK.out _ _ (by first | assumption | exact SSame.over (by assumption) HZf.out hbz | exact SSame.drew (by assumption) | exact SSame.below (by assumption) hbb | exact SSame.made (by assumption) | exact SSame.made_drew (by assumption)) (fun hs6 => ?_)
              clear hK K hs5
              refine wpAnyH_ready (rs := [34]) (by kernel_rfl) (by simp) ?_
              refine AllReadyH.cons rfl (fun K hK => ?_) AllReadyH.nil
              go_simp
              go_wp2_with (go_at_call 13; refine (HAsk.out _ _ _ (by first | exact HQ9.out | exact HQ6.out | exact HBk.out _ (by assumption) | exact HTc.out _ (And.left (b := _) (by assumption)) | exact HDc.out _ (And.left (b := _) (by assumption)))).mono ?_; rintro e wn ⟨rfl, hbb⟩)
              refine hK.out _ _ (by first | assumption | exact SSame.over (by assumption) HZf.out hbz | exact SSame.drew (by assumption) | exact SSame.below (by assumption) hbb | exact SSame.made (by assumption) | exact SSame.made_drew (by assumption)) (fun hs7 => ?_)
              clear hK K hs6
              refine wpAnyH_ready (rs := [35]) (by kernel_rfl) (by simp) ?_
              refine AllReadyH.cons rfl (fun K hK => ?_) AllReadyH.nil
              go_simp
              refine hK.out _ _ (by first | assumption | exact SSame.over (by assumption) HZf.out hbz | exact SSame.drew (by assumption) | exact SSame.below (by assumption) hbb | exact SSame.made (by assumption) | exact SSame.made_drew (by assumption)) (fun hs8 => ?_)
              clear hK K hs7
              refine wpAnyH_ready (rs := [36]) (by kernel_rfl) (by simp) ?_
              refine AllReadyH.cons rfl (fun K hK => ?_) AllReadyH.nil
              go_simp
              go_wp2_with (go_at_call 13; refine (HAsk.out _ _ _ (by first | exact HQ9.out | exact HQ6.out | exact HBk.out _ (by assumption) | exact HTc.out _ (And.left (b := _) (by assumption)) | exact HDc.out _ (And.left (b := _) (by assumption)) | exact HL2.out _)).mono ?_; rintro e wn ⟨rfl, hbb⟩)
              refine hK.out _ _ (by first | assumption | exact SSame.over (by assumption) HZf.out hbz | exact SSame.drew (by assumption) | exact SSame.below (by assumption) hbb | exact SSame.made (by assumption) | exact SSame.made_drew (by assumption)) (fun hs9 => ?_)
              clear hK K hs8
              refine wpAnyH_take (i := 38) (v := ?_) (by simp only [List.getElem?_toArray, List.getElem?_cons_succ, List.getElem?_cons_zero]; rfl) (by kernel_rfl) (by kernel_rfl) (by kernel_rfl) (by intro _ _ _ h; exact h) (Or.inl ⟨by rfl, ?_⟩) (by assumption) ?_
              rotate_left
              · (intro w hSw; (try dsimp only at hSw); go_simp <;> with_reducible rfl)
              try simp only [Act.put, List.setIfInBounds_toArray, List.set_cons_zero, List.set_cons_succ]
              refine wpAnyH_take (i := 39) (v := ?_) (by simp only [List.getElem?_toArray, List.getElem?_cons_succ, List.getElem?_cons_zero]; rfl) (by kernel_rfl) (by kernel_rfl) (by kernel_rfl) (by intro _ _ _ h; exact h) (Or.inl ⟨by rfl, ?_⟩) (by assumption) ?_
              rotate_left
              · (intro w hSw; (try dsimp only at hSw); go_simp <;> with_reducible rfl)
              try simp only [Act.put, List.setIfInBounds_toArray, List.set_cons_zero, List.set_cons_succ]
              refine wpAnyH_take (i := 40) (v := ?_) (by simp only [List.getElem?_toArray, List.getElem?_cons_succ, List.getElem?_cons_zero]; rfl) (by kernel_rfl) (by kernel_rfl) (by kernel_rfl) (by intro _ _ _ h; exact h) (Or.inl ⟨by rfl, ?_⟩) (by assumption) ?_
              rotate_left
              · (intro w hSw; (try dsimp only at hSw); go_simp <;> with_reducible rfl)
              try simp only [Act.put, List.setIfInBounds_toArray, List.set_cons_zero, List.set_cons_succ]
              refine wpAnyH_take (i := 41) (v := ?_) (by simp only [List.getElem?_toArray, List.getElem?_cons_succ, List.getElem?_cons_zero]; rfl) (by kernel_rfl) (by kernel_rfl) (by kernel_rfl) (by intro _ _ _ h; exact h) (Or.inl ⟨by rfl, ?_⟩) (by assumption) ?_
              rotate_left
              · (intro w hSw; (try dsimp only at hSw); go_simp <;> with_reducible rfl)
              try simp only [Act.put, List.setIfInBounds_toArray, List.set_cons_zero, List.set_cons_succ]
              refine wpAnyH_take (i := 42) (v := ?_) (by simp only [List.getElem?_toArray, List.getElem?_cons_succ, List.getElem?_cons_zero]; rfl) (by kernel_rfl) (by kernel_rfl) (by kernel_rfl) (by intro _ _ _ h; exact h) (Or.inl ⟨by rfl, ?_⟩) (by assumption) ?_
              rotate_left
              · (intro w hSw; (try dsimp only at hSw); go_simp <;> with_reducible rfl)
              try simp only [Act.put, List.setIfInBounds_toArray, List.set_cons_zero, List.set_cons_succ]
              refine wpAnyH_take (i := 43) (v := ?_) (by simp only [List.getElem?_toArray, List.getElem?_cons_succ, List.getElem?_cons_zero]; rfl) (by kernel_rfl) (by kernel_rfl) (by kernel_rfl) (by intro _ _ _ h; exact h) (Or.inl ⟨by rfl, ?_⟩) (by assumption) ?_
              rotate_left
              · (intro w hSw; (try dsimp only at hSw); go_simp <;> with_reducible rfl)
              try simp only [Act.put, List.setIfInBounds_toArray, List.set_cons_zero, List.set_cons_succ]
              refine wpAnyH_take (i := 47) (v := ?_) (by simp only [List.getElem?_toArray, List.getElem?_cons_succ, List.getElem?_cons_zero]; rfl) (by kernel_rfl) (by kernel_rfl) (by kernel_rfl) (by intro _ _ _ h; exact h) (Or.inl ⟨by rfl, ?_⟩) (by assumption) ?_
              rotate_left
              · (intro w hSw; (try dsimp only at hSw); go_simp <;> with_reducible rfl)
              try simp only [Act.put, List.setIfInBounds_toArray, List.set_cons_zero, List.set_cons_succ]
              refine wpAnyH_ready (rs := [44]) (by kernel_rfl) (by simp) ?_
              refine AllReadyH.cons rfl (fun K hK => ?_) AllReadyH.nil
              go_simp
              refine hK.out _ _ (by first | assumption | exact SSame.over (by assumption) HZf.out hbz | exact SSame.drew (by assumption) | exact SSame.below (by assumption) hbb | exact SSame.made (by assumption) | exact SSame.made_drew (by assumption)) (fun hs10 => ?_)
              clear hK K hs9
              refine wpAnyH_ready (rs := [45]) (by kernel_rfl) (by simp) ?_
              refine AllReadyH.cons rfl (fun K hK => ?_) AllReadyH.nil
              refine step_keep (by simp [Region.wanted, yielded]) (.tmp 119) (.tmp 121) 22 rfl w.heap.size 28 ii _ 5 48 Try.underlying22 hii hi0 hi1 hi2 rfl (by decide) (.slice (some ⟨g, 0, none⟩) N c7) N (xs.reverse.flatMap RegV.cells) rfl (SSame.row (by assumption) HNr.out) _ 1 1 ([M].flatMap RegV.cells) rfl rfl (news_regs (one_regs (T := 28) (heap_alloc_new _ _))) (regs_one _) (by unfold maxLen; omega) (by omega) (Below.size (And.left (b := _) (by assumption))) ?_
              intro v9 w9 h1 hgb _ hkp
              have hs9 : SSame w A7 A13 (.slice (some ⟨g, 0, none⟩) N c7) xs.reverse M w9 := SSame.grown (by assumption) hgb (ownR_of HNr.out hkp) HNe.out
              have HQ9 := Lib.hid (HQA.out v9 w9 h1)
              clear h1 hgb hkp
              refine hK.out _ _ (by first | assumption | exact SSame.over (by assumption) HZf.out hbz | exact SSame.drew (by assumption) | exact SSame.below (by assumption) hbb | exact SSame.made (by assumption) | exact SSame.made_drew (by assumption)) (fun hs11 => ?_)
              clear hK K hs10
              refine wpAnyH_ready (rs := [46]) (by kernel_rfl) (by simp) ?_
              refine AllReadyH.cons rfl (fun K hK => ?_) AllReadyH.nil
              go_simp
              go_wp2_with (go_at_call 13; refine (HAsk.out _ _ _ (by first | exact HQ9.out | exact HQ6.out | exact HBk.out _ (by assumption) | exact HTc.out _ (And.left (b := _) (by assumption)) | exact HDc.out _ (And.left (b := _) (by assumption)))).mono ?_; rintro e wn ⟨rfl, hbb⟩)
              refine hK.out _ _ (by first | assumption | exact SSame.over (by assumption) HZf.out hbz | exact SSame.drew (by assumption) | exact SSame.below (by assumption) hbb | exact SSame.made (by assumption) | exact SSame.made_drew (by assumption)) (fun hs12 => ?_)
              clear hK K hs11
              refine wpAnyH_take (i := 48) (v := ?_) (by simp only [List.getElem?_toArray, List.getElem?_cons_succ, List.getElem?_cons_zero]; rfl) (by kernel_rfl) (by kernel_rfl) (by kernel_rfl) (by intro _ _ _ h; exact h) (Or.inl ⟨by rfl, ?_⟩) (by assumption) ?_
              rotate_left
              · (intro w hSw; (try dsimp only at hSw); go_simp <;> with_reducible rfl)
              try simp only [Act.put, List.setIfInBounds_toArray, List.set_cons_zero, List.set_cons_succ]
              refine wpAnyH_take (i := 49) (v := ?_) (by simp only [List.getElem?_toArray, List.getElem?_cons_succ, List.getElem?_cons_zero]; rfl) (by kernel_rfl) (by kernel_rfl) (by kernel_rfl) (by intro _ _ _ h; exact h) (Or.inl ⟨by rfl, ?_⟩) (by assumption) ?_
              rotate_left
              · (intro w hSw; (try dsimp only at hSw); go_simp <;> with_reducible rfl)
              try simp only [Act.put, List.setIfInBounds_toArray, List.set_cons_zero, List.set_cons_succ]
              refine wpAnyH_take (i := 50) (v := ?_) (by simp only [List.getElem?_toArray, List.getElem?_cons_succ, List.getElem?_cons_zero]; rfl) (by kernel_rfl) (by kernel_rfl) (by kernel_rfl) (by intro _ _ _ h; exact h) (Or.inl ⟨by rfl, ?_⟩) (by assumption) ?_
              rotate_left
              · (intro w hSw; (try dsimp only at hSw); go_simp <;> with_reducible rfl)
              try simp only [Act.put, List.setIfInBounds_toArray, List.set_cons_zero, List.set_cons_succ]
              refine wpAnyH_done (by kernel_rfl) ?_ _
              have hz : SSame w A7 A13 (.slice (some ⟨g, 0, none⟩) N c7) xs.reverse M wn := by assumption
              have HBz := Lib.hid hz.1
              clear hz
              go_wp2
              go_ret
              exact ⟨rfl, HBz.out⟩
end Go.Proofs.Ytkoojfpafgkgiaa
