/-
  put of a store whose cells stand in a map of maps. The conditions: texts of at most 1000 bytes, few rows.
-/
import Derived.Test.YtgbhfhnbmgkaoaaGreatDoorPart23
namespace Go.Proofs.YtgbhfhnbmgkaoaaGreatDoor
open Go.RowKit Go.Maps TextNat RegMath

/-- What a put comes to: S0 are the store's blocks ahead of it, os0 its sessions. -/
def PutS (w0 : World) (S0 : Nat → Prop) (os0 : List (ByteArray × Nat)) (w : World) (b : Nat) (s : ByteArray) (xs : List RowV) : Prop :=
  ∃ bm os, Nest w b (some bm) os xs ∧ (∀ p ∈ os, p ∈ os0 ∨ p.1 = s) ∧ (∀ j, NestS b (some bm) os j → S0 j ∨ w0.heap.size ≤ j) ∧ Apart S0 w0 w
/-- A put on its way. -/
structure Putting (w0 : World) (S0 : Nat → Prop) (os0 : List (ByteArray × Nat)) (w : World) (b bm : Nat) (os : List (ByteArray × Nat)) (s : ByteArray) (xs : List RowV) (A : Nat) (cs : List Value) : Prop where
  nest : Nest w b (some bm) os xs
  ses : ∀ p ∈ os, p ∈ os0 ∨ p.1 = s
  blk : ∀ j, NestS b (some bm) os j → S0 j ∨ w0.heap.size < j
  box : Lies w A cs 58
  apart : Apart S0 w0 w
  size : w0.heap.size < w.heap.size
theorem Putting.below {w0 : World} {S0 : Nat → Prop} {os0 : List (ByteArray × Nat)} {w w' : World} {b bm : Nat} {os : List (ByteArray × Nat)} {s : ByteArray} {xs : List RowV} {A : Nat} {cs : List Value} (h : Putting w0 S0 os0 w b bm os s xs A cs) (hb : Below w.heap.size w w') : Putting w0 S0 os0 w' b bm os s xs A cs :=
  ⟨h.nest.below hb, h.ses, h.blk, h.box.below hb, h.apart.run (Apart.of (S := fun _ => False) hb) (fun _ h => h.elim), Nat.lt_of_lt_of_le h.size hb.size⟩
theorem Nest.at {w : World} {b : Nat} {m : Option Nat} {os : List (ByteArray × Nat)} {xs : List RowV} (h : Nest w b m os xs) {s : ByteArray} {bi : Nat} (hp : (s, bi) ∈ os) (hs : s.size ≤ 1000) :
    (Instr.lookup 89 (.map m) (.string s) false).run Tryz.prog w = .ok (.map (some bi)) w :=
  (h.map.look Tryz.underlying89 (zero_map w) (s := s) (by have := tk_fits hs; exact this) (r := some (some bi)) (List.mem_map_of_mem (f := sesE) hp)).1
set_option maxRecDepth 100000 in
set_option maxHeartbeats 8000000 in
theorem put16 (b : Nat) (m : Option Nat) (os : List (ByteArray × Nat)) (xs : List RowV) (s k : ByteArray) (c : RegV) (w : World) (h : Nest w b m os xs) (hl : os.length ≤ 1000) (he : (entS xs s).length ≤ 1000) (hs : s.size ≤ 1000) (hk : k.size ≤ 1000) :
    Calls Tryz.prog 19 #[ptr16 b, .string s, .string k, c.val] w fun e w' => e = .returned (.tuple #[]) ∧ PutS w (NestS b m os) os w' b s ((⟨s, k, c⟩ : RowV) :: xs.filter fun r => !atV s k r) := by
  obtain ⟨t, r, v, g, l⟩ := c
  unfold RegV.val
  simp only
  obtain ⟨W, hW⟩ : ∃ W, W = w.alloc (.cells #[.int .i64 t, .int .i64 r, .string v, .bool g, .int .i64 l] 58) := ⟨_, rfl⟩
  obtain ⟨A, hA⟩ : ∃ A, A = w.heap.size := ⟨_, rfl⟩
  have b1 : Below w.heap.size w W := by rw [hW]; exact (Below.refl _ _).alloc (Nat.le_refl _) _
  have hsz : W.heap.size = w.heap.size + 1 := by rw [hW]; simp
  have HL0 := Lib.hid (show Lies W A [.int .i64 t, .int .i64 r, .string v, .bool g, .int .i64 l] 58 by rw [hW, hA]; exact Lies.new w _ _)
  have HF0 := Lib.hid (h.below b1)
  have HA := Lib.hid hA
  have HB1 := Lib.hid b1
  have HSz := Lib.hid hsz
  have HW := Lib.hid hW
  have HLt := Lib.hid h.lt
  have HSs := Lib.hid (And.intro hs hk)
  have HLe := Lib.hid (And.intro hl he)
  have HC1 := Lib.hid (fun w => clone15 s (by omega) w)
  have HC2 := Lib.hid (fun w => clone15 k (by omega) w)
  clear hW hA b1 hsz h hs hk hl he
  have x0 := HF0.out.top.cell (i := 0) rfl
  have f0 := HF0.out.top.free 0
  have q := fun w => eql_nil2 m w
  go_enter Tryz.func19, Tryz.ntmps19
  go_upto_region 1 with fail
  rw [← HW.out, ← HA.out]
  go_upto_if 12 with fail
  go_cut [] from 8 to 16 (fun wx => ∃ bm os1, Hid (Putting w (NestS b m os) os wx b bm os1 s xs A [.int .i64 t, .int .i64 r, .string v, .bool g, .int .i64 l]) ∧ Hid (os1.length ≤ 1000))
  case first =>
    cases m with
    | some bm =>
      go_wp2
      go_meet
      case rel => exact ⟨bm, os, Lib.hid ⟨HF0.out, fun p hp => .inl hp, fun j hj => .inl hj, HL0.out, Apart.of HB1.out, by rw [HSz.out]; exact Nat.lt_succ_self _⟩, Lib.hid HLe.out.1⟩
    | none =>
      have hmm := @run_makeMap Tryz.prog
      have f1 := (HF0.out.top.below ((Below.refl W.heap.size W).alloc (Nat.le_refl _) (.map #[] 0))).free 0
      have x1 := (HF0.out.top.below ((Below.refl W.heap.size W).alloc (Nat.le_refl _) (.map #[] 0))).cell (i := 0) rfl
      go_wp2
      obtain ⟨W2, hW2⟩ : ∃ W2, W2 = W.alloc (.map #[] 0) := ⟨_, rfl⟩
      obtain ⟨bm, hbm⟩ : ∃ bm, bm = W.heap.size := ⟨_, rfl⟩
      have b2 : Below W.heap.size W W2 := by rw [hW2]; exact (Below.refl _ _).alloc (Nat.le_refl _) _
      have hsz2 : W2.heap.size = W.heap.size + 1 := by rw [hW2]; simp
      have hm2 : MapAt mapE W2 (some bm) [] := by rw [hW2, hbm]; exact MapAt.made W
      rw [← hW2, ← hbm]
      have hbl := HF0.out.top.lt
      have hne : bm ≠ b := by omega
      have hbu := But.set b 0 W2 (.map (some bm))
      have hL2 : Lies (W2.setCell ⟨b, 0, none⟩ (.map (some bm))) b [.map (some bm)] 91 := (HF0.out.top.below b2).set 0 (.map (some bm))
      have hN := nest_made HF0.out hL2 (hm2.same fun j hj => by obtain rfl := Option.some.inj hj; exact hbu.block _ (by omega) hne) hne
      go_meet
      case rel =>
        refine ⟨bm, [], Lib.hid ⟨hN, (fun p hp => by cases hp), ?_, ?_, ?_, ?_⟩, Lib.hid (Nat.zero_le _)⟩
        · rintro j (rfl | h2 | ⟨p, hp, _⟩)
          · exact .inl (.inl rfl)
          · obtain rfl := Option.some.inj h2
            exact .inr (by have := HSz.out; omega)
          · cases hp
        · exact Lies.but (HL0.out.below b2) hbu (by have := HLt.out b (.inl rfl); have := HA.out; omega)
        · have h1 : Apart (NestS b none os) w W2 := Apart.of (HB1.out.trans (b2.mono HB1.out.size))
          exact h1.run (S1 := fun j => j = b) ⟨hbu.os, hbu.tape, hbu.output, hbu.size, fun j hj hn => hbu.block j hj hn⟩ (fun j hj => .inl (.inl hj))
        · have := hbu.size; have := HSz.out; omega
  case rest =>
    obtain ⟨bm, os1, HP, HL1⟩ := hcut
    rename World => W1
    clear x0 f0 q
    obtain ⟨m', hl1, hl2, hl3, hl4⟩ := HP.out.nest.sess HSs.out.1
    have x0 := HP.out.nest.top.cell (i := 0) rfl
    have HM1 := Lib.hid hl3
    have HM2 := Lib.hid hl4
    have HM3 := Lib.hid hl2
    have q := fun w => eql_nil1 m' w
    clear hl2 hl3 hl4
    go_upto_if 23 with fail
    go_cut [] from 17 to 30 (fun wx => ∃ os2 bi, Hid (Putting w (NestS b m os) os wx b bm os2 s xs A [.int .i64 t, .int .i64 r, .string v, .bool g, .int .i64 l]) ∧ Hid ((s, bi) ∈ os2))
    case first =>
      cases m' with
      | some bi =>
        go_wp2
        go_meet
        case rel => exact ⟨os1, bi, HP, Lib.hid (HM1.out bi rfl)⟩
      | none =>
        go_wp2_with fail
        go_upto_region 4 with fail
        have HZ := Lib.hid (show ∀ w', Below W1.heap.size W1 w' → w'.cell? ⟨b, 0, none⟩ = some (.map (some bm)) from fun w' hb => (HP.out.nest.below hb).top.cell (i := 0) rfl)
        refine wp_region_held_drew (S := fun w' => w'.cell? ⟨b, 0, none⟩ = some (.map (some bm))) (by kernel_rfl) (HZ.out _ (Below.refl _ _).drew) (fun hs0 => ?_)
        refine wpAnyH_take (i := 0) (v := ?_) (by simp only [List.getElem?_toArray, List.getElem?_cons_zero]; rfl) (by kernel_rfl) (by kernel_rfl) (by kernel_rfl) (by intro _ _ _ h; exact h) (Or.inl ⟨by rfl, ?_⟩) (by assumption) ?_
        rotate_left
        · (intro w hSw; (try dsimp only at hSw); go_simp <;> with_reducible rfl)
        try simp only [Act.put, List.setIfInBounds_toArray, List.set_cons_zero, List.set_cons_succ]
        refine wpAnyH_take (i := 1) (v := ?_) (by simp only [List.getElem?_toArray, List.getElem?_cons_succ, List.getElem?_cons_zero]; rfl) (by kernel_rfl) (by kernel_rfl) (by kernel_rfl) (by intro _ _ _ h; exact h) (Or.inl ⟨by rfl, ?_⟩) (by assumption) ?_
        rotate_left
        · (intro w hSw; (try dsimp only at hSw); go_simp <;> with_reducible rfl)
        try simp only [Act.put, List.setIfInBounds_toArray, List.set_cons_zero, List.set_cons_succ]
        refine wpAnyH_take (i := 2) (v := ?_) (by simp only [List.getElem?_toArray, List.getElem?_cons_succ, List.getElem?_cons_zero]; rfl) (by kernel_rfl) (by kernel_rfl) (by kernel_rfl) (by intro _ _ _ h; exact h) (Or.inl ⟨by rfl, ?_⟩) (by assumption) ?_
        rotate_left
        · (intro w hSw; (try dsimp only at hSw); go_simp <;> with_reducible rfl)
        try simp only [Act.put, List.setIfInBounds_toArray, List.set_cons_zero, List.set_cons_succ]
        refine wpAnyH_take (i := 3) (v := ?_) (by simp only [List.getElem?_toArray, List.getElem?_cons_succ, List.getElem?_cons_zero]; rfl) (by kernel_rfl) (by kernel_rfl) (by kernel_rfl) (by intro _ _ _ h; exact h) (Or.inl ⟨by rfl, ?_⟩) (by assumption) ?_
        rotate_left
        · (intro w hSw; (try dsimp only at hSw); go_simp <;> with_reducible rfl)
        try simp only [Act.put, List.setIfInBounds_toArray, List.set_cons_zero, List.set_cons_succ]
        refine wpAnyH_take (i := 4) (v := ?_) (by simp only [List.getElem?_toArray, List.getElem?_cons_succ, List.getElem?_cons_zero]; rfl) (by kernel_rfl) (by kernel_rfl) (by kernel_rfl) (by intro _ _ _ h; exact h) (Or.inl ⟨by rfl, ?_⟩) (by assumption) ?_
        rotate_left
        · (intro w hSw; (try dsimp only at hSw); go_simp <;> with_reducible rfl)
        try simp only [Act.put, List.setIfInBounds_toArray, List.set_cons_zero, List.set_cons_succ]
        refine wpAnyH_ready (rs := [5, 6]) (by kernel_rfl) (by simp) ?_
        refine AllReadyH.cons rfl (fun K hK => ?_) (AllReadyH.cons rfl (fun K hK => ?_) AllReadyH.nil)
        ·
          go_simp
          refine (HC1.out _).mono ?_
          rintro e wa ⟨rfl, ha⟩
          have ha2 : Below W1.heap.size W1 wa := (show Below W1.heap.size W1 W1.drew from (Below.refl _ _).drew).trans (show Below W1.heap.size W1.drew wa from ⟨ha.os, ha.tape, ha.output, ha.size, ha.block⟩)
          refine hK.out _ _ (HZ.out _ ha2) (fun hs1 => ?_)
          clear hK K hs0 ha
          refine wpAnyH_ready (rs := [6]) (by kernel_rfl) (by simp) ?_
          refine AllReadyH.cons rfl (fun K hK => ?_) AllReadyH.nil
          have hmm := @run_makeMap Tryz.prog
          go_simp
          obtain ⟨wz, hwz⟩ : ∃ wz, wz = wa.alloc (.map #[] 0) := ⟨_, rfl⟩
          obtain ⟨X, hX⟩ : ∃ X, X = wa.heap.size := ⟨_, rfl⟩
          have HXz := Lib.hid (show W1.heap.size ≤ X by rw [hX]; exact ha2.size)
          have HMz := Lib.hid (show MapAt cellE wz (some X) [] by rw [hwz, hX]; exact MapAt.made wa)
          have HBz := Lib.hid (show Below W1.heap.size W1 wz by rw [hwz]; exact ha2.alloc ha2.size _)
          rw [← hwz, ← hX]
          refine hK.out _ _ (HZ.out _ HBz.out) (fun hs2 => ?_)
          clear hK K hs1 hwz hX ha2 hmm
          refine wpAnyH_ready (rs := [7]) (by kernel_rfl) (by simp) ?_
          refine AllReadyH.cons rfl (fun K hK => ?_) AllReadyH.nil
          refine step_put16 mapE (by simp [Region.wanted]) (.tmp 27) (.tmp 29) (.tmp 30) 89 88 rfl Tryz.underlying89 bm (os1.map sesE) rfl (HP.out.nest.below HBz.out).map (by rw [List.length_map]; have := HL1.out; unfold maxLen; omega) s (by have := HSs.out.1; unfold maxLen; omega) rfl (some X) rfl ?_
          intro w7 h7 hg
          have hbm : b ≠ bm := fun e => HP.out.nest.ne (by rw [e])
          have hbl := HP.out.nest.top.lt
          have hml : bm < W1.heap.size := HP.out.nest.map.lt
          have hgb : ∀ j, j < wz.heap.size → j ≠ bm → w7.heap[j]? = wz.heap[j]? := fun j hj hn => hg.block j hj fun e => hn (Option.some.inj e)
          have hNs := nest_sess (bi := X) (HP.out.nest.below HBz.out) (HM2.out trivial) (hgb b (Nat.lt_of_lt_of_le hbl HBz.out.size) hbm) h7 (HMz.out.same fun j hj => by obtain rfl := Option.some.inj hj; exact hgb _ HMz.out.lt (by have := HXz.out; omega)) (fun p hp => hgb _ ((HP.out.nest.below HBz.out).inner p hp).lt fun e => (HP.out.nest.out p hp).2 (by rw [e])) ⟨by have := HXz.out; omega, by have := HXz.out; omega, fun p hp => by have := (HP.out.nest.inner p hp).lt; have := HXz.out; omega⟩
          have hAp := (HP.out.below HBz.out).apart.run (S1 := fun j => j = bm) ⟨hg.os, hg.tape, hg.output, hg.size, fun j hj hn => hgb j hj hn⟩ (fun j hj => (HP.out.blk j (.inr (.inl (by rw [hj])))).imp id Nat.le_of_lt)
          have hAl := HP.out.box.lt
          have hLb : Lies w7 A [.int .i64 t, .int .i64 r, .string v, .bool g, .int .i64 l] 58 := (hgb A (Nat.lt_of_lt_of_le hAl HBz.out.size) (fun e => by rcases HP.out.blk bm (.inr (.inl rfl)) with h1 | h1; (· have := HLt.out bm h1; have := HA.out; omega); (· have := HA.out; omega))).trans (HP.out.box.below HBz.out)
          have hPu : Putting w (NestS b m os) os w7 b bm ((s, X) :: os1) s xs A [.int .i64 t, .int .i64 r, .string v, .bool g, .int .i64 l] := ⟨hNs, fun p hp => (List.mem_cons.1 hp).elim (fun e => .inr (by rw [e])) (HP.out.ses p), fun j hj => by rcases hj with h1 | h1 | ⟨p, hp, h1⟩; (· exact HP.out.blk j (.inl h1)); (· exact HP.out.blk j (.inr (.inl h1))); (· rcases List.mem_cons.1 hp with e | e; (· right; rw [← h1, e]; exact Nat.lt_of_lt_of_le HP.out.size HXz.out); (· exact HP.out.blk j (.inr (.inr ⟨p, e, h1⟩)))), hLb, hAp, Nat.lt_of_lt_of_le HP.out.size (Nat.le_trans HBz.out.size hg.size)⟩
          refine hK.out _ _ (hNs.top.cell (i := 0) rfl) (fun _ => ?_)
          clear hK K
          refine wpAnyH_done (by kernel_rfl) ?_ _
          go_wp2_with fail
          go_meet
          case rel => exact ⟨_, X, Lib.hid hPu, Lib.hid (List.mem_cons_self ..)⟩
        ·
          have hmm := @run_makeMap Tryz.prog
          go_simp
          obtain ⟨wa, hwa⟩ : ∃ wa, wa = (W1.alloc (.map #[] 0)).drew := ⟨_, rfl⟩
          obtain ⟨X, hX⟩ : ∃ X, X = W1.heap.size := ⟨_, rfl⟩
          have HXz := Lib.hid (show W1.heap.size ≤ X by rw [hX]; exact Nat.le_refl _)
          have hma : MapAt cellE wa (some X) [] := by rw [hwa, hX]; exact (MapAt.made W1).same fun j hj => rfl
          have ha2 : Below W1.heap.size W1 wa := by rw [hwa]; exact ((Below.refl _ _).alloc (Nat.le_refl _) _).drew
          rw [← hwa, ← hX]
          refine hK.out _ _ (HZ.out _ ha2) (fun hs1 => ?_)
          clear hK K hs0 hwa hX hmm
          refine wpAnyH_ready (rs := [5]) (by kernel_rfl) (by simp) ?_
          refine AllReadyH.cons rfl (fun K hK => ?_) AllReadyH.nil
          go_simp
          refine (HC1.out _).mono ?_
          rintro e wz ⟨rfl, ha⟩
          have HBz := Lib.hid (ha2.trans (ha.mono ha2.size))
          have HMz := Lib.hid (hma.below ha)
          refine hK.out _ _ (HZ.out _ HBz.out) (fun hs2 => ?_)
          clear hK K hs1 ha ha2 hma
          refine wpAnyH_ready (rs := [7]) (by kernel_rfl) (by simp) ?_
          refine AllReadyH.cons rfl (fun K hK => ?_) AllReadyH.nil
          refine step_put16 mapE (by simp [Region.wanted]) (.tmp 27) (.tmp 29) (.tmp 30) 89 88 rfl Tryz.underlying89 bm (os1.map sesE) rfl (HP.out.nest.below HBz.out).map (by rw [List.length_map]; have := HL1.out; unfold maxLen; omega) s (by have := HSs.out.1; unfold maxLen; omega) rfl (some X) rfl ?_
          intro w7 h7 hg
          have hbm : b ≠ bm := fun e => HP.out.nest.ne (by rw [e])
          have hbl := HP.out.nest.top.lt
          have hml : bm < W1.heap.size := HP.out.nest.map.lt
          have hgb : ∀ j, j < wz.heap.size → j ≠ bm → w7.heap[j]? = wz.heap[j]? := fun j hj hn => hg.block j hj fun e => hn (Option.some.inj e)
          have hNs := nest_sess (bi := X) (HP.out.nest.below HBz.out) (HM2.out trivial) (hgb b (Nat.lt_of_lt_of_le hbl HBz.out.size) hbm) h7 (HMz.out.same fun j hj => by obtain rfl := Option.some.inj hj; exact hgb _ HMz.out.lt (by have := HXz.out; omega)) (fun p hp => hgb _ ((HP.out.nest.below HBz.out).inner p hp).lt fun e => (HP.out.nest.out p hp).2 (by rw [e])) ⟨by have := HXz.out; omega, by have := HXz.out; omega, fun p hp => by have := (HP.out.nest.inner p hp).lt; have := HXz.out; omega⟩
          have hAp := (HP.out.below HBz.out).apart.run (S1 := fun j => j = bm) ⟨hg.os, hg.tape, hg.output, hg.size, fun j hj hn => hgb j hj hn⟩ (fun j hj => (HP.out.blk j (.inr (.inl (by rw [hj])))).imp id Nat.le_of_lt)
          have hAl := HP.out.box.lt
          have hLb : Lies w7 A [.int .i64 t, .int .i64 r, .string v, .bool g, .int .i64 l] 58 := (hgb A (Nat.lt_of_lt_of_le hAl HBz.out.size) (fun e => by rcases HP.out.blk bm (.inr (.inl rfl)) with h1 | h1; (· have := HLt.out bm h1; have := HA.out; omega); (· have := HA.out; omega))).trans (HP.out.box.below HBz.out)
          have hPu : Putting w (NestS b m os) os w7 b bm ((s, X) :: os1) s xs A [.int .i64 t, .int .i64 r, .string v, .bool g, .int .i64 l] := ⟨hNs, fun p hp => (List.mem_cons.1 hp).elim (fun e => .inr (by rw [e])) (HP.out.ses p), fun j hj => by rcases hj with h1 | h1 | ⟨p, hp, h1⟩; (· exact HP.out.blk j (.inl h1)); (· exact HP.out.blk j (.inr (.inl h1))); (· rcases List.mem_cons.1 hp with e | e; (· right; rw [← h1, e]; exact Nat.lt_of_lt_of_le HP.out.size HXz.out); (· exact HP.out.blk j (.inr (.inr ⟨p, e, h1⟩)))), hLb, hAp, Nat.lt_of_lt_of_le HP.out.size (Nat.le_trans HBz.out.size hg.size)⟩
          refine hK.out _ _ (hNs.top.cell (i := 0) rfl) (fun _ => ?_)
          clear hK K
          refine wpAnyH_done (by kernel_rfl) ?_ _
          go_wp2_with fail
          go_meet
          case rel => exact ⟨_, X, Lib.hid hPu, Lib.hid (List.mem_cons_self ..)⟩
    case rest =>
      obtain ⟨os2, bi, HP2, HIn⟩ := hcut
      rename World => W2
      clear x0 hl1 q
      have HZ := Lib.hid (show ∀ w', Nest w' b (some bm) os2 xs → Lies w' A [.int .i64 t, .int .i64 r, .string v, .bool g, .int .i64 l] 58 → w'.cell? ⟨b, 0, none⟩ = some (.map (some bm)) ∧ (Instr.lookup 89 (.map (some bm)) (.string s) false).run Tryz.prog w' = .ok (.map (some bi)) w' ∧ w'.cell? ⟨A, 0, none⟩ = some (.int .i64 t) ∧ w'.cell? ⟨A, 1, none⟩ = some (.int .i64 r) ∧ w'.cell? ⟨A, 2, none⟩ = some (.string v) ∧ w'.cell? ⟨A, 3, none⟩ = some (.bool g) ∧ w'.cell? ⟨A, 4, none⟩ = some (.int .i64 l) from fun w' hn hb => ⟨hn.top.cell (i := 0) rfl, hn.at HIn.out HSs.out.1, hb.cell (i := 0) rfl, hb.cell (i := 1) rfl, hb.cell (i := 2) rfl, hb.cell (i := 3) rfl, hb.cell (i := 4) rfl⟩)
      go_upto_region 5 with fail
      have HD := Lib.hid (show Below W2.heap.size W2 W2.drew from (Below.refl _ _).drew)
      refine wp_region_held_drew (S := fun w' => w'.cell? ⟨b, 0, none⟩ = some (.map (some bm)) ∧ (Instr.lookup 89 (.map (some bm)) (.string s) false).run Tryz.prog w' = .ok (.map (some bi)) w' ∧ w'.cell? ⟨A, 0, none⟩ = some (.int .i64 t) ∧ w'.cell? ⟨A, 1, none⟩ = some (.int .i64 r) ∧ w'.cell? ⟨A, 2, none⟩ = some (.string v) ∧ w'.cell? ⟨A, 3, none⟩ = some (.bool g) ∧ w'.cell? ⟨A, 4, none⟩ = some (.int .i64 l)) (by kernel_rfl) (HZ.out _ (HP2.out.below HD.out).nest (HP2.out.below HD.out).box) (fun hs0 => ?_)
      refine wpAnyH_take (i := 0) (v := ?_) (by simp only [List.getElem?_toArray, List.getElem?_cons_zero]; rfl) (by kernel_rfl) (by kernel_rfl) (by kernel_rfl) (by intro _ _ _ h; exact h) (Or.inl ⟨by rfl, ?_⟩) (by assumption) ?_
      rotate_left
      · (intro w hSw; (try dsimp only at hSw); go_simp <;> with_reducible rfl)
      try simp only [Act.put, List.setIfInBounds_toArray, List.set_cons_zero, List.set_cons_succ]
      refine wpAnyH_take (i := 1) (v := ?_) (by simp only [List.getElem?_toArray, List.getElem?_cons_succ, List.getElem?_cons_zero]; rfl) (by kernel_rfl) (by kernel_rfl) (by kernel_rfl) (by intro _ _ _ h; exact h) (Or.inl ⟨by rfl, ?_⟩) (by assumption) ?_
      rotate_left
      · (intro w hSw; (try dsimp only at hSw); go_simp <;> with_reducible rfl)
      try simp only [Act.put, List.setIfInBounds_toArray, List.set_cons_zero, List.set_cons_succ]
      refine wpAnyH_take (i := 2) (v := ?_) (by simp only [List.getElem?_toArray, List.getElem?_cons_succ, List.getElem?_cons_zero]; rfl) (by kernel_rfl) (by kernel_rfl) (by kernel_rfl) (by intro _ _ _ h; exact h) (Or.inl ⟨by rfl, ?_⟩) (by assumption) ?_
      rotate_left
      · (intro w hSw; (try dsimp only at hSw); go_simp <;> with_reducible rfl)
      try simp only [Act.put, List.setIfInBounds_toArray, List.set_cons_zero, List.set_cons_succ]
      refine wpAnyH_take (i := 3) (v := ?_) (by simp only [List.getElem?_toArray, List.getElem?_cons_succ, List.getElem?_cons_zero]; rfl) (by kernel_rfl) (by kernel_rfl) (by kernel_rfl) (by intro _ _ _ h; exact h) (Or.inl ⟨by rfl, ?_⟩) (by assumption) ?_
      rotate_left
      · (intro w hSw; (try dsimp only at hSw); go_simp <;> with_reducible rfl)
      try simp only [Act.put, List.setIfInBounds_toArray, List.set_cons_zero, List.set_cons_succ]
      refine wpAnyH_take (i := 4) (v := ?_) (by simp only [List.getElem?_toArray, List.getElem?_cons_succ, List.getElem?_cons_zero]; rfl) (by kernel_rfl) (by kernel_rfl) (by kernel_rfl) (by intro _ _ _ h; exact h) (Or.inl ⟨by rfl, ?_⟩) (by assumption) ?_
      rotate_left
      · (intro w hSw; (try dsimp only at hSw); go_simp <;> with_reducible rfl)
      try simp only [Act.put, List.setIfInBounds_toArray, List.set_cons_zero, List.set_cons_succ]
      refine wpAnyH_take (i := 5) (v := ?_) (by simp only [List.getElem?_toArray, List.getElem?_cons_succ, List.getElem?_cons_zero]; rfl) (by kernel_rfl) (by kernel_rfl) (by kernel_rfl) (by intro _ _ _ h; exact h) (Or.inl ⟨by rfl, ?_⟩) (by assumption) ?_
      rotate_left
      · (intro w hSw; (try dsimp only at hSw); go_simp <;> with_reducible rfl)
      try simp only [Act.put, List.setIfInBounds_toArray, List.set_cons_zero, List.set_cons_succ]
      refine wpAnyH_take (i := 6) (v := ?_) (by simp only [List.getElem?_toArray, List.getElem?_cons_succ, List.getElem?_cons_zero]; rfl) (by kernel_rfl) (by kernel_rfl) (by kernel_rfl) (by intro _ _ _ h; exact h) (Or.inl ⟨by rfl, ?_⟩) (by assumption) ?_
      rotate_left
      · (intro w hSw; (try dsimp only at hSw); go_simp <;> with_reducible rfl)
      try simp only [Act.put, List.setIfInBounds_toArray, List.set_cons_zero, List.set_cons_succ]
      refine wpAnyH_take (i := 8) (v := ?_) (by simp only [List.getElem?_toArray, List.getElem?_cons_succ, List.getElem?_cons_zero]; rfl) (by kernel_rfl) (by kernel_rfl) (by kernel_rfl) (by intro _ _ _ h; exact h) (Or.inl ⟨by rfl, ?_⟩) (by assumption) ?_
      rotate_left
      · (intro w hSw; (try dsimp only at hSw); go_simp <;> with_reducible rfl)
      try simp only [Act.put, List.setIfInBounds_toArray, List.set_cons_zero, List.set_cons_succ]
      refine wpAnyH_ready (rs := [7]) (by kernel_rfl) (by simp) ?_
      refine AllReadyH.cons rfl (fun K hK => ?_) AllReadyH.nil
      go_simp
      refine (HC2.out _).mono ?_
      rintro e wa ⟨rfl, ha⟩
      have hb := HD.out.trans (show Below W2.heap.size W2.drew wa from ⟨ha.os, ha.tape, ha.output, ha.size, ha.block⟩)
      have HPa := Lib.hid (HP2.out.below hb)
      refine hK.out _ _ (HZ.out _ HPa.out.nest HPa.out.box) (fun hs1 => ?_)
      clear hK K hs0 ha hb
      refine wpAnyH_ready (rs := [9]) (by kernel_rfl) (by simp) ?_
      refine AllReadyH.cons rfl (fun K hK => ?_) AllReadyH.nil
      refine step_put16 cellE (by simp [Region.wanted]) (.tmp 36) (.tmp 38) (.tmp 39) 88 58 rfl Tryz.underlying88 bi (entS xs s) rfl (HPa.out.nest.inner _ HIn.out) (by have := HLe.out.2; unfold maxLen; omega) k (by have := HSs.out.2; unfold maxLen; omega) rfl (⟨t, r, v, g, l⟩ : RegV) rfl ?_
      intro w7 h7 hg
      have hgb : ∀ j, j < wa.heap.size → j ≠ bi → w7.heap[j]? = wa.heap[j]? := fun j hj hn => hg.block j hj fun e => hn (Option.some.inj e)
      have hNp := nest_put HPa.out.nest HIn.out h7 (fun j hj hn => hgb j (HPa.out.nest.lt j hj) hn)
      have hbi : NestS b (some bm) os2 bi := .inr (.inr ⟨_, HIn.out, rfl⟩)
      have hLb : Lies w7 A [.int .i64 t, .int .i64 r, .string v, .bool g, .int .i64 l] 58 := (hgb A HPa.out.box.lt (fun e => by
        rcases HPa.out.blk bi hbi with h1 | h1
        · have := HLt.out bi h1; have := HA.out; omega
        · have := HA.out; omega)).trans HPa.out.box
      have hPu : PutS w (NestS b m os) os w7 b s ((⟨s, k, ⟨t, r, v, g, l⟩⟩ : RowV) :: xs.filter fun r => !atV s k r) := ⟨bm, os2, hNp, HPa.out.ses, fun j hj => (HPa.out.blk j hj).imp id Nat.le_of_lt, HPa.out.apart.run (S1 := fun j => j = bi) ⟨hg.os, hg.tape, hg.output, hg.size, fun j hj hn => hgb j hj hn⟩ (fun j hj => by
        have hj2 : j = bi := hj
        subst hj2
        exact (HPa.out.blk j hbi).imp id Nat.le_of_lt)⟩
      refine hK.out _ _ ⟨hNp.top.cell (i := 0) rfl, hNp.at HIn.out HSs.out.1, hLb.cell (i := 0) rfl, hLb.cell (i := 1) rfl, hLb.cell (i := 2) rfl, hLb.cell (i := 3) rfl, hLb.cell (i := 4) rfl⟩ (fun _ => ?_)
      clear hK K
      have HPu := Lib.hid hPu
      clear hPu hLb hNp h7 hg hgb hbi hs1
      refine wpAnyH_done (by kernel_rfl) ?_ _
      go_wp2
      go_end0
      exact ⟨rfl, HPu.out⟩
end Go.Proofs.YtgbhfhnbmgkaoaaGreatDoor
