/-
  A store that isn't there, of a program whose stores' cells stand in a map of maps. The conditions: texts of at most 2^48 bytes.
-/
import Derived.Test.YtgbhfhnbmgkaoaaNest10
namespace Go.Proofs.Ytgbhfhnbmgkaoaa
open Go.RowKit Go.Maps TextNat RegMath

theorem none_sess (s : ByteArray) (hs : s.size ≤ 281474976710656) (w : World) : (Instr.lookup 66 (.map none) (.string s) false).run Try.prog w = .ok (.map none) w :=
  ((MapAt.none (E := mapE) w).look Try.underlying66 (zero_map w) (s := s) (by unfold maxLen; omega) (r := none) (fun c hc => by cases hc)).1
theorem none_key (w : World) : (Instr.lookup 70 (.map none) (.string ⟨#[]⟩) false).run Try.prog w = .ok zeroR.val w :=
  ((MapAt.none (E := cellE) w).look Try.underlying70 (zero_cell w) (s := ⟨#[]⟩) (by decide) (r := none) (fun c hc => by cases hc)).1
set_option maxRecDepth 100000 in
theorem livesNone16 (w : World) : Calls Try.prog 23 #[.pointer none] w fun e w' => (∃ p c, e = .returned (.slice p 0 c) ∧ c ≤ 9223372036854775807) ∧ Below w.heap.size w w' := by
  have eg : ∀ args w, (callFunc 52 args).run Try.prog w = .ok (.enter 52 args) w := enters_of Try.func52 (by kernel_rfl) rfl
  have HR := Lib.hid (risingMap16 none [] (fun _ => true) [] 52 #[] w (MapAt.none w) (Nat.zero_le _) (fun p hp => by cases hp) List.Pairwise.nil (fun x => ⟨(fun h => by cases h), (fun ⟨c, h, _⟩ => by cases h)⟩) eg (fun p hp => by cases hp))
  have HA := Lib.hid (allNone16 w)
  clear eg
  go_enter Try.func23, Try.ntmps23
  go_wp2_with fail
  refine HA.out.mono ?_
  rintro e w0 ⟨rfl, hw0⟩
  rw [hw0]
  clear hw0
  go_wp2_with fail
  refine HR.out.mono ?_
  rintro e w1 ⟨⟨p, c, rfl, h1, h2, h3⟩, hb⟩
  have HB := Lib.hid hb
  clear h3 hb
  go_wp2
  go_ret
  exact ⟨⟨p, c, rfl, h2⟩, HB.out⟩
set_option maxRecDepth 100000 in
set_option maxHeartbeats 4000000 in
theorem none16Ok : None16 := by
  refine ⟨?_, ?_, ?_, ?_, ?_, ?_, ?_, ?_⟩
  · intro y w _
    obtain ⟨x0, x1, x2, x3, x4, x5, x6, x7, x8, x9, x10, x11⟩ := y
    have HB := Lib.hid ((Below.refl w.heap.size w).alloc (Nat.le_refl _) (.cells #[.int .i64 x0, .int .i64 x1, .int .i64 x2, .int .i64 x3, .slice x4 x5.length x6, .string x7, .string x8, .string x9, .bool x10, .int .i64 x11] 36))
    unfold WriteV.val
    simp only
    go_enter Try.func12, Try.ntmps12
    go_wp2
    go_ret
    exact ⟨rfl, HB.out⟩
  · intro s k w
    have HE := Lib.hid (fun w => refusal16 0 1 w)
    go_enter Try.func22, Try.ntmps22
    go_wp2_with fail
    refine (HE.out _).mono ?_
    rintro e w2 ⟨⟨x, rfl, hx⟩, hb⟩
    have HX := Lib.hid hx.is
    have HB := Lib.hid hb
    clear hx hb
    go_wp2
    go_ret2
    exact ⟨⟨x, rfl, HX.out⟩, HB.out⟩
  · intro s w hs
    obtain ⟨W, hW⟩ : ∃ W, W = w.alloc (.cells #[.int .i64 0, .int .i64 0, .string ⟨#[]⟩, .bool false, .int .i64 0] 48) := ⟨_, rfl⟩
    have HL := Lib.hid (show Lies W w.heap.size [.int .i64 0, .int .i64 0, .string ⟨#[]⟩, .bool false, .int .i64 0] 48 by rw [hW]; exact Lies.new w _ _)
    have HB := Lib.hid (show Below w.heap.size w W by rw [hW]; exact (Below.refl _ _).alloc (Nat.le_refl _) _)
    have HW := Lib.hid hW
    have HA := Lib.hid (allNone16 W)
    have h1 := none_sess s hs W
    have h2 := none_key W
    have HC := Lib.hid (fun w => copied16 zeroR (by decide) w)
    simp only [zeroR, RegV.val] at h2 HC ⊢
    clear hW hs
    go_enter Try.func21, Try.ntmps21
    go_upto_region 1 with fail
    rw [← HW.out]
    go_wp2_with fail
    refine HA.out.mono ?_
    rintro e w0 ⟨rfl, hw0⟩
    rw [hw0]
    clear hw0
    go_wp2_with fail
    refine (HC.out W).mono ?_
    rintro e wm ⟨rfl, hb⟩
    have HB2 := Lib.hid (HB.out.trans (hb.mono HB.out.size))
    have HLm := Lib.hid (HL.out.below hb)
    clear hb h1 h2
    have e0 := HLm.out.cell (i := 0) rfl; have e1 := HLm.out.cell (i := 1) rfl; have e2 := HLm.out.cell (i := 2) rfl; have e3 := HLm.out.cell (i := 3) rfl; have e4 := HLm.out.cell (i := 4) rfl
    have f0 := HLm.out.free 0; have f1 := HLm.out.free 1; have f2 := HLm.out.free 2; have f3 := HLm.out.free 3; have f4 := HLm.out.free 4
    go_wp2
    obtain ⟨q2, q3⟩ := put_five HLm.out rfl (.int .i64 0) (.int .i64 0) (.string ⟨#[]⟩) (.bool false) (.int .i64 0)
    refine bodyPost_ret (results_one Try.results21 rfl q2 Try.underlying48 rfl (by kernel_rfl)) rfl ?_
    exact ⟨rfl, HB2.out.trans (q3.below HB2.out.size)⟩
  · intro s w hs
    have h1 := none_sess s hs w
    have eg : ∀ args w, (callFunc 54 args).run Try.prog w = .ok (.enter 54 args) w := enters_of Try.func54 (by kernel_rfl) rfl
    have HR := Lib.hid (risingCell16 none [] (fun _ => true) [] 54 #[] w (MapAt.none w) (Nat.zero_le _) (fun p hp => by cases hp) List.Pairwise.nil (fun x => ⟨(fun h => by cases h), (fun ⟨c, h, _⟩ => by cases h)⟩) eg (fun p hp => by cases hp))
    have HA := Lib.hid (allNone16 w)
    clear eg hs
    go_enter Try.func24, Try.ntmps24
    go_wp2_with fail
    refine HA.out.mono ?_
    rintro e w0 ⟨rfl, hw0⟩
    rw [hw0]
    clear hw0
    go_wp2_with fail
    refine HR.out.mono ?_
    rintro e w1 ⟨⟨p, c, rfl, _, _, _⟩, hb⟩
    have HB := Lib.hid hb
    clear hb h1
    go_wp2
    go_ret
    exact ⟨⟨p, c, rfl⟩, HB.out⟩
  · intro w
    refine (livesNone16 w).mono ?_
    rintro e w' ⟨⟨p, c, rfl, _⟩, hb⟩
    exact ⟨⟨p, c, rfl⟩, hb⟩
  · intro f w
    obtain ⟨W, hW⟩ : ∃ W, W = w.alloc (.cells #[.int .i64 f] 3) := ⟨_, rfl⟩
    have HB := Lib.hid (show Below w.heap.size w W by rw [hW]; exact (Below.refl _ _).alloc (Nat.le_refl _) _)
    have HW := Lib.hid hW
    have HA := Lib.hid (allNone16 W)
    have hr := run_range_nilMap (P := Try.prog) W 66 9 70 Try.underlying66
    have hn := fun ty => run_next_nilMap (P := Try.prog) W ty 0 0 #[]
    clear hW
    go_enter Try.func14, Try.ntmps14
    go_upto_region 2 with fail
    rw [← HW.out]
    go_wp2_with fail
    refine HA.out.mono ?_
    rintro e w0 ⟨rfl, hw0⟩
    rw [hw0]
    clear hw0
    go_upto_region 3 with fail
    obtain ⟨V, hV⟩ : ∃ V, V = W.alloc (.mapIter none 0 #[] 0) := ⟨_, rfl⟩
    have bV : Below W.heap.size W V := by rw [hV]; exact (Below.refl _ _).alloc (Nat.le_refl _) _
    have HBV := Lib.hid (HB.out.trans (bV.mono HB.out.size))
    rw [← hV] at hn ⊢
    clear hV hr bV
    go_loopg [5] 1 (fun gh s5 wx => s5 = .int .i64 0 ∧ wx = V)
    case atStart => exact ⟨rfl, rfl⟩
    case round =>
      obtain ⟨rfl, hw⟩ := hrel
      rw [hw]
      clear hw
      go_wp2
      go_ret
      exact ⟨rfl, HBV.out⟩
  · intro w
    have eg : ∀ args w, (callFunc 44 args).run Try.prog w = .ok (.enter 44 args) w := enters_of Try.func44 (by kernel_rfl) rfl
    have HR := Lib.hid (risingMap16 none [] (fun _ => true) [] 44 #[] w (MapAt.none w) (Nat.zero_le _) (fun p hp => by cases hp) List.Pairwise.nil (fun x => ⟨(fun h => by cases h), (fun ⟨c, h, _⟩ => by cases h)⟩) eg (fun p hp => by cases hp))
    have HA := Lib.hid (allNone16 w)
    clear eg
    go_enter Try.func19, Try.ntmps19
    go_wp2_with fail
    refine HA.out.mono ?_
    rintro e w0 ⟨rfl, hw0⟩
    rw [hw0]
    clear hw0
    go_wp2_with fail
    refine HR.out.mono ?_
    rintro e W1 ⟨⟨p, c, rfl, _, _, _⟩, hb⟩
    have HB := Lib.hid hb
    clear hb
    go_wp2_with fail
    go_loopg [3, 10] 0 (fun gh s3 s9 wx => s3 = .slice none 0 0 ∧ s9 = .int .i64 0 ∧ wx = W1)
    case atStart => exact ⟨rfl, rfl, rfl⟩
    case round =>
      obtain ⟨rfl, rfl, hw⟩ := hrel
      rw [hw]
      clear hw
      go_wp2
      go_ret
      exact ⟨⟨none, 0, rfl⟩, HB.out⟩
  · intro w
    have HR := Lib.hid (livesNone16 w)
    go_enter Try.func20, Try.ntmps20
    go_wp2_with fail
    refine HR.out.mono ?_
    rintro e W1 ⟨⟨p, c, rfl, _⟩, hb⟩
    have HB := Lib.hid hb
    clear hb
    go_wp2_with fail
    go_loopg [3, 9] 0 (fun gh s3 s9 wx => s3 = .slice none 0 0 ∧ s9 = .int .i64 0 ∧ wx = W1)
    case atStart => exact ⟨rfl, rfl, rfl⟩
    case round =>
      obtain ⟨rfl, rfl, hw⟩ := hrel
      rw [hw]
      clear hw
      go_wp2
      go_ret
      exact ⟨⟨none, 0, rfl⟩, HB.out⟩
end Go.Proofs.Ytgbhfhnbmgkaoaa
