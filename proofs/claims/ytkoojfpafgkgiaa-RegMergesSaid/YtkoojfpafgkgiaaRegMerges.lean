/-
  RegMerges' contract: it answers true of any cells, out of the program's contracts and the example. The conditions: the cells lie in memory.
-/
import Derived.Test.YtkoojfpafgkgiaaRegMerge
import Derived.Test.YtkoojfpafgkgiaaRegGreat
import Derived.Test.YtkoojfpafgkgiaaRegOwn
import Derived.Test.YtkoojfpafgkgiaaGrow
namespace Go.Proofs.Ytkoojfpafgkgiaa
open Go.RowKit TextNat RegMath

theorem eql_ref15 (a : RegV) (w : World) : (binOp .eql 31 a.val a.val).run Try.prog w = .ok (.bool true) w := by
  unfold RegV.val
  go_simp
set_option maxRecDepth 100000 in
set_option maxHeartbeats 8000000 in
theorem merges_true (hA : AwakeOk) (hM : MergeOk) (p : Option Addr) (c : Nat) (xs : List RegV) (w : World) (h : RegsIn w p xs) (hc : xs.length ≤ c) (hl : c ≤ 9223372036854775807) :
    Calls Try.prog 4 #[.slice p xs.length c] w fun e w' => e = .returned (.bool true) ∧ Below w.heap.size w w' := by
  obtain ⟨ii, hii, hi0, hi1, hi2⟩ := info_parts info_ref15
  have HA := Lib.hid hA
  have HGt := Lib.hid (fun w1 (hw : Below w.heap.size w w1) => great_ok p c xs w1 (h.grown hw) (by omega))
  have HGn := Lib.hid (fun (h : greatR xs = false) => greatR_not h)
  have HMg := Lib.hid (fun (h60 : xs.length ≤ 60) (hs : ShortR xs) w1 (hw : Below w.heap.size w w1) => hM p c xs w1 (h.grown hw) hc hl (by omega) hs)
  obtain ⟨N, hNl⟩ : ∃ N, N = xs.length := ⟨_, rfl⟩
  have HI := Lib.hid h
  have HN := Lib.hid hNl
  rw [← hNl] at hc HGt HMg ⊢
  clear h hNl hA hM
  go_enter Try.func4, Try.ntmps4
  go_wp2_with fail
  refine (HA.out w).mono ?_
  rintro e w1 ⟨rfl, hb1⟩
  have HB1 := Lib.hid hb1
  clear hb1
  go_wp2_with fail
  refine (HGt.out w1 HB1.out).mono ?_
  rintro e w2 ⟨rfl, hb1⟩
  replace HB1 := Lib.hid (HB1.out.trans (hb1.mono HB1.out.size))
  clear hb1
  cases hgr : greatR xs with
  | true =>
    clear hgr
    go_wp2
    go_ret
    exact ⟨rfl, HB1.out⟩
  | false =>
    have hN60 : N ≤ 60 := by rw [HN.out]; exact (HGn.out hgr).1
    have HSh := Lib.hid (show ShortR xs from fun x hx => by have := (HGn.out hgr).2 x hx; omega)
    clear hgr HGn
    go_wp2_with fail
    go_loopg [3, 12] N (fun gh s3 s12 wx => ∃ i : Nat, i + gh = N ∧ s12 = .int .i64 (i : Int) ∧ OwnR 31 wx w.heap.size s3 (xs.take i) ∧ Below w.heap.size w wx)
    case atStart => exact ⟨0, by omega, by go_num, OwnR.nil _ _ _, HB1.out⟩
    case round =>
      obtain ⟨i, hi, rfl, hO, hb⟩ := hrel
      rename World => W1
      have HB := Lib.hid hb
      have hlen : (xs.take i).length = i := by rw [List.length_take, ← HN.out]; omega
      have HLn := Lib.hid hlen
      obtain ⟨mp, mc, hms⟩ := hO.shape
      rw [hlen] at hms
      subst hms
      have HO := Lib.hid hO
      clear hb HB1 hO hlen
      by_cases hiN : i < N
      · have q1 : decide ((i : Int) < (N : Int)) = true := decide_eq_true (by omega)
        have q1' : decide (i < N) = true := decide_eq_true hiN
        obtain ⟨a, ha⟩ : ∃ a, xs[i]? = some a := ⟨_, List.getElem?_eq_getElem (by rw [← HN.out]; exact hiN)⟩
        obtain ⟨b, off, hp, x0, x1, x2, x3, x4⟩ := (HI.out.grown HB.out) i _ ha
        subst hp
        obtain ⟨W2, hW2⟩ : ∃ W2, W2 = W1.alloc (.cells #[.int .i64 a.time, .int .i64 a.region, .string a.value, .bool a.gone, .int .i64 a.life] 28) := ⟨_, rfl⟩
        have hA2 : Below W1.heap.size W1 W2 := by rw [hW2]; exact (Below.refl _ _).alloc (Nat.le_refl _) _
        have hA3 : Below W2.heap.size W2 (W2.alloc (.cells #[.int .i64 a.time, .int .i64 a.region, .string a.value, .bool a.gone, .int .i64 a.life] 31)) := (Below.refl _ _).alloc (Nat.le_refl _) _
        have hA4 := hA2.trans (hA3.mono hA2.size)
        have hO4 := HO.out.below hA4
        unfold OwnR at hO4
        rw [HLn.out] at hO4
        have HO4 := Lib.hid hO4
        have HB4 := Lib.hid (HB.out.trans (hA4.mono HB.out.size))
        have HT := Lib.hid (show xs.take (i + 1) = xs.take i ++ [a] by rw [List.take_add_one, ha]; rfl)
        rw [hW2] at HO4 HB4
        have HO5 := HO4
        have HB5 := HB4
        have h60 : i ≤ 60 := by omega
        clear ha hA2 hA3 hA4 hO4 hW2
        go_wp2_with (at_builtin; refine wpList_append_own _ rfl _ _ 34 rfl w.heap.size 31 ii _ 5 48 Try.underlying34 hii hi0 hi1 hi2 rfl (by decide) _ _ _ rfl HO5.out ⟨_, 0, none⟩ 1 1 a.cells rfl rfl (five_put _ a _ _ (by simp)) (rcell_one a) (by unfold maxLen; omega) (by omega) HB5.out.size ?_; intro v4 w4 hown4 hgrow4 hnil4; clear hnil4)
        have hO6 := OwnR.more HLn.out.symm hown4
        rw [← HT.out] at hO6
        have hB6 := HB5.out.grown hgrow4 HB5.out.size (fun q hq => (World.ownsRow.lt HO5.out q hq).1)
        go_roundg (N - (i + 1))
        case measure => omega
        case rel => exact ⟨i + 1, by omega, by go_num, hO6, hB6⟩
      · have q1 : decide ((i : Int) < (N : Int)) = false := decide_eq_false (by omega)
        have q1' : decide (i < N) = false := decide_eq_false hiN
        obtain rfl : i = N := by omega
        have htk : xs.take i = xs := List.take_of_length_le (by rw [HN.out]; exact Nat.le_refl _)
        have HR := Lib.hid (fun w1 (hw : Below W1.heap.size W1 w1) => refMerge15 mp mc xs w1 ((htk ▸ HO.out.regs).grown hw) (by rw [← HN.out]; omega))
        rw [← HN.out] at HR
        clear htk HO
        go_wp2_with fail
        refine (HMg.out hN60 HSh.out W1 HB.out).mono ?_
        rintro e w5 ⟨rfl, hb5⟩
        have HB5 := Lib.hid (HB.out.trans (hb5.mono HB.out.size))
        have HC5 := Lib.hid hb5
        clear hb5
        obtain ⟨M, hM⟩ : ∃ M, M = mergeV xs := ⟨_, rfl⟩
        rw [← hM] at HR ⊢
        clear hM
        have q := fun w => eql_ref15 M w
        obtain ⟨m1, m2, m3, m4, m5⟩ := M
        simp only [RegV.val] at q HR ⊢
        go_wp2_with fail
        refine (HR.out w5 HC5.out).mono ?_
        rintro e w6 ⟨rfl, hb6⟩
        have HB6 := Lib.hid (HB5.out.trans (hb6.mono HB5.out.size))
        clear hb6
        go_wp2
        go_ret
        exact ⟨rfl, HB6.out⟩
end Go.Proofs.Ytkoojfpafgkgiaa
