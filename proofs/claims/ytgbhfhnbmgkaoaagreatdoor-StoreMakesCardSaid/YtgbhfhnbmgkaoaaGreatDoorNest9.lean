/-
  Keys, Lives and the rows of a session, of a store whose cells stand in a map of maps; what their function literals ask. The conditions: texts of at most 1000 bytes, rows that rise.
-/
import Derived.Test.YtgbhfhnbmgkaoaaGreatDoorNest8
import Derived.Test.YtgbhfhnbmgkaoaaGreatDoorNest6
import Derived.Test.YtgbhfhnbmgkaoaaGreatDoorPart23
import Derived.Test.YtgbhfhnbmgkaoaaGreatDoorPart09
namespace Go.Proofs.YtgbhfhnbmgkaoaaGreatDoor
open Go.RowKit Go.Maps TextNat RegMath

theorem size_zero {k : ByteArray} (h : k.size = 0) : k = ⟨#[]⟩ := by
  obtain ⟨a⟩ := k
  have : a = #[] := Array.size_eq_zero_iff.1 h
  rw [this]
theorem keys_names {xs : List RowV} (s : ByteArray) (x : ByteArray) : x ∈ keysV xs s ↔ ∃ c, (x, c) ∈ entS xs s ∧ (decide (0 < x.size) && visV c) = true := by
  unfold keysV
  rw [List.mem_map]
  constructor
  · rintro ⟨r, hr, rfl⟩
    obtain ⟨h1, h2⟩ := List.mem_filter.1 hr
    unfold keyV at h2
    rw [Bool.and_eq_true] at h2
    have e : r.session = s := of_decide_eq_true h2.1
    subst e
    exact ⟨r.cell, mem_entS.2 h1, h2.2⟩
  · rintro ⟨c, h1, h2⟩
    exact ⟨_, List.mem_filter.2 ⟨mem_entS.1 h1, by unfold keyV; rw [Bool.and_eq_true]; exact ⟨decide_eq_true rfl, h2⟩⟩, rfl⟩
theorem lives_iff {xs : List RowV} (hr : StoreMath.Rising (xs.map RowV.r)) (x : ByteArray) : x ∈ livesV xs ↔ visV (headV xs x) = true := by
  unfold livesV
  rw [List.mem_map]
  constructor
  · rintro ⟨r, hr1, rfl⟩
    obtain ⟨h1, h2⟩ := List.mem_filter.1 hr1
    unfold liveV at h2
    rw [Bool.and_eq_true] at h2
    have e : r.key = ⟨#[]⟩ := size_zero (of_decide_eq_true h2.1)
    have := lookV_mem hr h1
    rw [e] at this
    unfold headV
    rw [this]
    exact h2.2
  · intro h2
    unfold headV at h2
    have hf := finds_key xs x ⟨#[]⟩
    cases hl : lookV xs x ⟨#[]⟩ with
    | none =>
      rw [hl] at h2
      exact absurd h2 (by decide)
    | some c0 =>
      rw [hl] at hf h2
      have h3 : visV c0 = true := h2
      exact ⟨_, List.mem_filter.2 ⟨mem_entS.1 hf, by unfold liveV; rw [Bool.and_eq_true]; exact ⟨decide_eq_true rfl, h3⟩⟩, rfl⟩
theorem lives_in {xs : List RowV} (x : ByteArray) (h : x ∈ livesV xs) : ∃ r ∈ xs, r.session = x := by
  unfold livesV at h
  obtain ⟨r, hr1, rfl⟩ := List.mem_map.1 h
  exact ⟨r, (List.mem_filter.1 hr1).1, rfl⟩
theorem lives_names {w : World} {b : Nat} {m : Option Nat} {os : List (ByteArray × Nat)} {xs : List RowV} (h : Nest w b m os xs) (hr : StoreMath.Rising (xs.map RowV.r)) (x : ByteArray) : x ∈ livesV xs ↔ ∃ c, (x, c) ∈ os.map sesE ∧ visV (headV xs x) = true := by
  constructor
  · intro hx
    obtain ⟨r, h1, rfl⟩ := lives_in x hx
    obtain ⟨p, hp, e2⟩ := h.all r h1
    exact ⟨some p.2, List.mem_map.2 ⟨p, hp, by rw [← e2]⟩, (lives_iff hr _).1 hx⟩
  · rintro ⟨c, _, h2⟩
    exact (lives_iff hr x).2 h2
set_option maxRecDepth 100000 in
theorem keysLit16 (k : ByteArray) (c : RegV) (W : World) : Calls Tryz.prog 54 #[.string k, c.val] W fun e w' => e = .returned (.bool (decide (0 < k.size) && visV c)) ∧ Below W.heap.size W w' := by
  have e0 := text_isEmpty k
  have HV := Lib.hid (fun w => visibleOk c w)
  obtain ⟨t, r, v, g, l⟩ := c
  simp only [RegV.val] at HV ⊢
  obtain ⟨W1, hW1⟩ : ∃ W1, W1 = W.alloc (.cells #[.int .i64 t, .int .i64 r, .string v, .bool g, .int .i64 l] 58) := ⟨_, rfl⟩
  obtain ⟨A, hA⟩ : ∃ A, A = W.heap.size := ⟨_, rfl⟩
  have b1 : Below W.heap.size W W1 := by rw [hW1]; exact (Below.refl _ _).alloc (Nat.le_refl _) _
  have L1 := Lib.hid (show Lies W1 A [.int .i64 t, .int .i64 r, .string v, .bool g, .int .i64 l] 58 by rw [hW1, hA]; exact Lies.new W _ _)
  have HB := Lib.hid b1
  have HW1 := Lib.hid hW1; have HA := Lib.hid hA
  clear hW1 b1 hA
  have d0 := L1.out.cell (i := 0) rfl; have d1 := L1.out.cell (i := 1) rfl; have d2 := L1.out.cell (i := 2) rfl; have d3 := L1.out.cell (i := 3) rfl; have d4 := L1.out.cell (i := 4) rfl
  by_cases hk : 0 < k.size
  · rw [decide_eq_false (by omega)] at e0
    have k2 : (!k.toList.isEmpty) = true := by rw [e0]; rfl
    rw [decide_eq_true hk, Bool.true_and]
    clear hk
    go_enter Tryz.func54, Tryz.ntmps54
    go_upto_region 1 with fail
    rw [← HW1.out, ← HA.out]
    go_wp2_with fail
    refine (HV.out _).mono ?_
    rintro e w1 ⟨rfl, hb⟩
    have HB1 := Lib.hid (HB.out.trans (hb.mono HB.out.size))
    clear hb
    go_wp2
    go_ret
    exact ⟨rfl, HB1.out⟩
  · rw [decide_eq_true (by omega)] at e0
    have k2 : (!k.toList.isEmpty) = false := by rw [e0]; rfl
    rw [decide_eq_false hk, Bool.false_and]
    clear hk
    go_enter Tryz.func54, Tryz.ntmps54
    go_upto_region 1 with fail
    rw [← HW1.out, ← HA.out]
    go_wp2
    go_ret
    exact ⟨rfl, HB.out⟩
set_option maxRecDepth 100000 in
theorem livesLit16 (m' : Option Nat) (xs : List RowV) (s : ByteArray) (W : World) (h : MapAt cellE W m' (entS xs s)) : Calls Tryz.prog 56 #[.string s, .map m'] W fun e w' => e = .returned (.bool (visV (headV xs s))) ∧ Below W.heap.size W w' := by
  have HL := Lib.hid (lives16 m' xs s W h)
  clear h
  go_enter Tryz.func56, Tryz.ntmps56
  go_wp2_with fail
  refine HL.out.mono ?_
  rintro e w1 ⟨rfl, hb⟩
  have HB := Lib.hid hb
  clear hb
  go_wp2
  go_ret
  exact ⟨rfl, HB.out⟩
set_option maxRecDepth 100000 in
theorem rowsLit1 (u v : Value) (W : World) : Calls Tryz.prog 57 #[u, v] W fun e w' => e = .returned (.bool true) ∧ Below W.heap.size W w' := by
  go_enter Tryz.func57, Tryz.ntmps57
  go_wp2
  go_ret
  exact ⟨rfl, Below.refl _ _⟩
set_option maxRecDepth 100000 in
theorem rowsLit2 (c : RegV) (W : World) : Calls Tryz.prog 59 #[c.val] W fun e w' => e = .returned (.bool true) ∧ Below W.heap.size W w' := by
  obtain ⟨t, r, v, g, l⟩ := c
  simp only [RegV.val]
  have HB := Lib.hid ((Below.refl W.heap.size W).alloc (Nat.le_refl _) (.cells #[.int .i64 t, .int .i64 r, .string v, .bool g, .int .i64 l] 58))
  go_enter Tryz.func59, Tryz.ntmps59
  go_wp2
  go_ret
  exact ⟨rfl, HB.out⟩
set_option maxRecDepth 100000 in
/-- rows' own literal asks the function that was handed in. -/
theorem pickLit16 (q : RegV → Bool) (g P : Nat) (cb : Array Value) (k : ByteArray) (c : RegV) (W : World) (hP : W.cell? ⟨P, 0, none⟩ = some (.func (.func g) #[] cb)) (eg : ∀ args w, (callFunc g args).run Tryz.prog w = .ok (.enter g args) w)
    (hq : ∀ W1, Below W.heap.size W W1 → Calls Tryz.prog g (#[c.val] ++ cb) W1 fun e w' => e = .returned (.bool (q c)) ∧ Below W1.heap.size W1 w') :
    Calls Tryz.prog 67 #[.string k, c.val, .pointer (some ⟨P, 0, none⟩)] W fun e w' => e = .returned (.bool (q c)) ∧ Below W.heap.size W w' := by
  obtain ⟨bq, hbq⟩ : ∃ bq, bq = q c := ⟨_, rfl⟩
  rw [← hbq] at hq ⊢
  clear hbq
  have HQ := Lib.hid hq
  clear hq
  obtain ⟨t, r, v, gg, l⟩ := c
  simp only [RegV.val] at HQ ⊢
  obtain ⟨W1, hW1⟩ : ∃ W1, W1 = W.alloc (.cells #[.int .i64 t, .int .i64 r, .string v, .bool gg, .int .i64 l] 58) := ⟨_, rfl⟩
  obtain ⟨A, hA⟩ : ∃ A, A = W.heap.size := ⟨_, rfl⟩
  have b1 : Below W.heap.size W W1 := by rw [hW1]; exact (Below.refl _ _).alloc (Nat.le_refl _) _
  have L1 := Lib.hid (show Lies W1 A [.int .i64 t, .int .i64 r, .string v, .bool gg, .int .i64 l] 58 by rw [hW1, hA]; exact Lies.new W _ _)
  have hP2 := (b1.cell (p := ⟨P, 0, none⟩) (World.block_lt_of_cell? W _ hP)).trans hP
  have HB := Lib.hid b1
  have HW1 := Lib.hid hW1; have HA := Lib.hid hA
  clear hW1 b1 hA hP
  have d0 := L1.out.cell (i := 0) rfl; have d1 := L1.out.cell (i := 1) rfl; have d2 := L1.out.cell (i := 2) rfl; have d3 := L1.out.cell (i := 3) rfl; have d4 := L1.out.cell (i := 4) rfl
  go_enter Tryz.func67, Tryz.ntmps67
  go_upto_region 1 with fail
  rw [← HW1.out, ← HA.out]
  go_wp2_with fail
  refine (HQ.out W1 HB.out).mono ?_
  rintro e w1 ⟨rfl, hb⟩
  have HB1 := Lib.hid (HB.out.trans (hb.mono HB.out.size))
  clear hb
  go_wp2
  go_ret
  exact ⟨rfl, HB1.out⟩
set_option maxRecDepth 100000 in
theorem keys16 : Keys16 sto16 := by
  rintro b S xs s w ⟨m, os, h, hf, rfl⟩ hx hs
  obtain ⟨m', hl1, hl2, _, _⟩ := h.sess hs
  have eg : ∀ args w, (callFunc 54 args).run Tryz.prog w = .ok (.enter 54 args) w := enters_of Tryz.func54 (by kernel_rfl) rfl
  have hr := risingCell16 m' (entS xs s) (fun p => decide (0 < p.1.size) && visV p.2) (keysV xs s) 54 #[] w hl2 (entS_few hx s) (fun p hp => (entS_short hx hp).1)
    (by have := StoreMath.keys_rise hx.rises (nats s); rw [keys_r] at this; exact this) (keys_names s) eg (fun p _ W _ => keysLit16 p.1 p.2 W)
  have HR := Lib.hid hr
  have HA := Lib.hid (all16 b m w h.top)
  clear hr h hx eg hf hl2
  go_enter Tryz.func31, Tryz.ntmps31
  go_wp2_with fail
  refine HA.out.mono ?_
  rintro e w0 ⟨rfl, hw0⟩
  rw [hw0]
  clear hw0
  go_wp2_with fail
  refine HR.out.mono ?_
  rintro e w1 ⟨⟨p, c, rfl, h1, h2, h3⟩, hb⟩
  have HI := Lib.hid h3
  have HB := Lib.hid hb
  clear h3 hb hl1
  go_wp2
  go_ret
  exact ⟨⟨p, c, rfl, h1, h2, HI.out⟩, HB.out⟩
theorem ses_few {w : World} {b : Nat} {m : Option Nat} {os : List (ByteArray × Nat)} {xs : List RowV} (h : Nest w b m os xs) (hf : Full16 os xs) (hx : Short xs) : (os.map sesE).length ≤ 1000 := by
  rw [List.length_map]
  exact Nat.le_trans (few_sessions h.keys hf) hx.few
theorem ses_short {os : List (ByteArray × Nat)} {xs : List RowV} (hf : Full16 os xs) (hx : Short xs) : ∀ p ∈ os.map sesE, p.1.size ≤ 1000 := fun p hp => by
  obtain ⟨r, hr, rfl⟩ := List.mem_map.1 hp
  exact ent_short hx (hf r hr)
theorem Nest.of_ses {w : World} {b : Nat} {m : Option Nat} {os : List (ByteArray × Nat)} {xs : List RowV} (h : Nest w b m os xs) {p : ByteArray × Option Nat} (hp : p ∈ os.map sesE) : MapAt cellE w p.2 (entS xs p.1) := by
  obtain ⟨r, hr, rfl⟩ := List.mem_map.1 hp
  exact h.inner r hr
set_option maxRecDepth 100000 in
theorem livesAll16 : Lives16 sto16 := by
  rintro b S xs w ⟨m, os, h, hf, rfl⟩ hx
  have eg : ∀ args w, (callFunc 56 args).run Tryz.prog w = .ok (.enter 56 args) w := enters_of Tryz.func56 (by kernel_rfl) rfl
  have hr := risingMap16 m (os.map sesE) (fun p => visV (headV xs p.1)) (livesV xs) 56 #[] w h.map (ses_few h hf hx) (ses_short hf hx)
    (by have := StoreMath.lives_rise hx.rises; rw [lives_r] at this; exact this) (lives_names h hx.rises) eg (fun p hp W hb => livesLit16 p.2 xs p.1 W ((h.below hb).of_ses hp))
  have HR := Lib.hid hr
  have HA := Lib.hid (all16 b m w h.top)
  clear hr h hx eg hf
  go_enter Tryz.func33, Tryz.ntmps33
  go_wp2_with fail
  refine HA.out.mono ?_
  rintro e w0 ⟨rfl, hw0⟩
  rw [hw0]
  clear hw0
  go_wp2_with fail
  refine HR.out.mono ?_
  rintro e w1 ⟨⟨p, c, rfl, h1, h2, h3⟩, hb⟩
  have HI := Lib.hid h3
  have HB := Lib.hid hb
  clear h3 hb
  go_wp2
  go_ret
  exact ⟨⟨p, c, rfl, h1, h2, HI.out⟩, HB.out⟩
end Go.Proofs.YtgbhfhnbmgkaoaaGreatDoor
