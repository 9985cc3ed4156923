/-
  The program's whole of chapter 10: are these a whole generation's parts? The conditions: parts that lie in memory.
-/
import Derived.Test.YtajkldmpllphjaaDoorPart07
import Derived.Test.YtajkldmpllphjaaDoorPart08
namespace Go.Proofs.YtajkldmpllphjaaDoor
open Go.RowKit BlockMath FrameMath TextNat JournalMath

theorem PartsIn.below {w w' : World} {pp : Option Addr} {A : List (Part × Nat)} (h : PartsIn w pp A) (hb : Below w.heap.size w w') : PartsIn w' pp A := fun i a ha => by
  obtain ⟨b, off, rfl, hc⟩ := h i a ha
  exact ⟨b, off, rfl, fun j u hu => (hb.cell (World.block_lt_of_cell? w _ (hc j u hu))).trans (hc j u hu)⟩
theorem PartsIn.at_ {w : World} {pp : Option Addr} {L : List Part} {i : Nat} {p : Part} (h : PartsIn w pp (pairs L 0)) (hp : L[i]? = some p) : ∃ b off m, pp = some ⟨b, off, none⟩ ∧ m = (enc (L.take (i + 1))).length ∧
    w.cell? ⟨b, off + i * 5, none⟩ = some (.int .i64 (p.kind : Int)) ∧ w.cell? ⟨b, off + i * 5 + 1, none⟩ = some (.int .i64 (p.gen : Int)) ∧ w.cell? ⟨b, off + i * 5 + 2, none⟩ = some (.int .i64 (p.place : Int)) ∧ w.cell? ⟨b, off + i * 5 + 3, none⟩ = some (.string (txt p.text)) ∧ w.cell? ⟨b, off + i * 5 + 4, none⟩ = some (.int .i64 (m : Int)) := by
  obtain ⟨b, off, h1, h2⟩ := h i _ (pairs_at (i := 0) hp)
  refine ⟨b, off, (enc (L.take (i + 1))).length, h1, rfl, h2 0 _ rfl, ?_, ?_, ?_, ?_⟩
  · rw [Nat.add_assoc]; exact h2 1 _ rfl
  · rw [Nat.add_assoc]; exact h2 2 _ rfl
  · rw [Nat.add_assoc]; exact h2 3 _ rfl
  · rw [Nat.add_assoc]
    have := h2 4 _ rfl
    rwa [Nat.zero_add] at this
theorem first_iff {i : Nat} {k1 : Int} (h : (!((i : Int) == 0) == (k1 == 1)) = false) : k1 = 1 ↔ i = 0 := by
  by_cases h1 : i = 0
  · subst h1
    simpa using h
  · have h2 : ((i : Int) == 0) = false := by rw [beq_eq_false_iff_ne]; omega
    rw [h2] at h
    simp at h
    exact ⟨fun h3 => absurd h3 h, fun h3 => absurd h3 h1⟩
theorem first_not {i : Nat} {k1 : Int} (h : (!((i : Int) == 0) == (k1 == 1)) = true) : ¬ (k1 = 1 ↔ i = 0) := by
  by_cases h1 : i = 0
  · subst h1
    simp at h
    exact fun h2 => h (h2.2 rfl)
  · have h2 : ((i : Int) == 0) = false := by rw [beq_eq_false_iff_ne]; omega
    rw [h2] at h
    simp at h
    exact fun h3 => h1 (h3.1 h)
set_option maxRecDepth 100000 in
set_option maxHeartbeats 8000000 in
theorem pwhole_ok (pp : Option Addr) (cap : Nat) (L : List Part) (en : Int) (cor : Bool) (w : World) (hp : PartsIn w pp (pairs L 0)) (hl : L.length ≤ 1000000) (g : Nat) (hg : g = (L.head?.map Part.gen).getD 0) :
    Calls Tryd.prog 32 #[.agg #[.slice pp L.length cap, .int .i64 en, .bool cor]] w fun e w' => e = .returned (.bool (!cor && whole L)) ∧ Below w.heap.size w w' := by
  have HX := Lib.hid hp
  obtain ⟨N, hN⟩ : ∃ N, N = L.length := ⟨_, rfl⟩
  have HN := Lib.hid hN
  have HG := Lib.hid hg
  have hN9 : N ≤ 1000000 := by rw [hN]; exact hl
  rw [← hN]
  have L0 := Lib.hid (Lies.new w [.slice pp N cap, .int .i64 en, .bool cor] 61)
  have B0 := Lib.hid ((Below.refl w.heap.size w).alloc (Nat.le_refl _) (.cells #[.slice pp N cap, .int .i64 en, .bool cor] 61))
  obtain ⟨tb, htb⟩ : ∃ tb, tb = w.heap.size := ⟨_, rfl⟩
  have HTB := Lib.hid htb
  rw [← htb] at L0
  clear hp hN hl hg htb
  go_enter Tryd.func32, Tryd.ntmps32
  go_wp2_with fail
  rw [← HTB.out]
  go_loopg [3, 10] N (fun gh s3 s10 wx => ∃ (i ends : Nat) , i + gh = N ∧ s10 = .int .i64 (i : Int) ∧ s3 = .bool (decide (ends = 1)) ∧ ends ≤ 1 ∧ whole L = wholeF g (decide (i = 0)) ends (L.drop i) ∧ Lies wx tb [.slice pp N cap, .int .i64 en, .bool cor] 61 ∧ Below tb w wx)
  case atStart => exact ⟨0, 0, by omega, by go_num, rfl, by omega, by rw [HG.out]; exact whole_start L, L0.out, by rw [HTB.out]; exact B0.out⟩
  case round =>
    obtain ⟨i, ends, hi, rfl, rfl, hends, hw, ht, hb⟩ := hrel
    rename World => W
    have HW := Lib.hid hw
    have HT := Lib.hid ht
    have HB := Lib.hid hb
    have HI := Lib.hid hi
    have HE := Lib.hid hends
    by_cases hin : i < N
    case neg =>
      have u1 : decide ((i : Int) < (N : Int)) = false := decide_eq_false (by omega)
      have u1' : decide (i < N) = false := decide_eq_false hin
      have HF := Lib.hid (show whole L = (ends == 1) by rw [HW.out]; exact whole_end (by rw [← HN.out]; omega))
      have c2 := Lies.cell (i := 2) HT.out rfl
      obtain ⟨eb, heb⟩ : ∃ eb, eb = decide (ends = 1) := ⟨_, rfl⟩
      have HEB := Lib.hid (show whole L = eb by rw [HF.out, heb]; rfl)
      rw [← heb]
      clear hw ht hb hi hends hin heb
      cases eb with
      | false =>
        go_wp2
        go_ret
        exact ⟨by rw [HEB.out]; cases cor <;> rfl, by rw [← HTB.out]; exact HB.out⟩
      | true =>
        go_wp2
        go_ret
        exact ⟨by rw [HEB.out]; cases cor <;> rfl, by rw [← HTB.out]; exact HB.out⟩
    case pos =>
      have u1 : decide ((i : Int) < (N : Int)) = true := decide_eq_true (by omega)
      have u1' : decide (i < N) = true := decide_eq_true hin
      obtain ⟨p, hp⟩ : ∃ p, L[i]? = some p := ⟨_, List.getElem?_eq_getElem (by rw [← HN.out]; exact hin)⟩
      obtain ⟨p0, hp0⟩ : ∃ p, L[0]? = some p := ⟨_, List.getElem?_eq_getElem (by rw [← HN.out]; omega)⟩
      have HP := Lib.hid hp
      have HPG := Lib.hid (show p0.gen = g by rw [HG.out, List.head?_eq_getElem?, hp0]; rfl)
      have hXW := HX.out.below (by rw [← HTB.out]; exact HB.out)
      obtain ⟨b, off, m, rfl, -, c0, c1, c2, c3, c4⟩ := hXW.at_ hp
      obtain ⟨b', off', m', hbb, -, -, e1, -, -, -⟩ := hXW.at_ hp0
      obtain ⟨rfl, rfl⟩ : b = b' ∧ off = off' := by simpa using hbb
      rw [HPG.out] at e1
      replace e1 : W.cell? ⟨b, off + 1, none⟩ = some (.int .i64 (g : Int)) := by simpa using e1
      have HST := Lib.hid (whole_step (g := g) (ends := ends) hp)
      obtain ⟨k1, hk1⟩ : ∃ k1 : Int, k1 = (p.kind : Int) := ⟨_, rfl⟩
      obtain ⟨k2, hk2⟩ : ∃ k2 : Int, k2 = (p.gen : Int) := ⟨_, rfl⟩
      obtain ⟨k3, hk3⟩ : ∃ k3 : Int, k3 = (p.place : Int) := ⟨_, rfl⟩
      obtain ⟨k4, hk4⟩ : ∃ k4, k4 = txt p.text := ⟨_, rfl⟩
      rw [← hk1] at c0
      rw [← hk2] at c1
      rw [← hk3] at c2
      rw [← hk4] at c3
      obtain ⟨q2, hq2⟩ : ∃ q2 : Int, q2 = (g : Int) := ⟨_, rfl⟩
      rw [← hq2] at e1
      have HK := Lib.hid (And.intro hk1 (And.intro hk2 hq2))
      have d0 := Lies.cell (i := 0) HT.out rfl
      obtain ⟨eb, heb⟩ : ∃ eb, eb = decide (ends = 1) := ⟨_, rfl⟩
      have HEB := Lib.hid heb
      have hN0 : 0 < N := by omega
      have hN0' : (0 : Int) < (N : Int) := by omega
      rw [← heb]
      clear hw ht hb hi hends heb hp hp0 hXW hk1 hk2 hk3 hk4 hq2 hbb
      have al := (Below.refl W.heap.size W).alloc (Nat.le_refl _) (.cells #[.int .i64 k1, .int .i64 k2, .int .i64 k3, .string k4, .int .i64 (m : Int)] 87)
      have LP := Lib.hid (Lies.new W [.int .i64 k1, .int .i64 k2, .int .i64 k3, .string k4, .int .i64 (m : Int)] 87)
      have T1 := Lib.hid (HT.out.below al)
      have e1' := (al.cell (p := ⟨b, off + 1, none⟩) (World.block_lt_of_cell? W _ e1)).trans e1
      have B1 := Lib.hid (HB.out.trans (al.mono (by rw [HTB.out]; exact HB.out.size)))
      obtain ⟨pb, hpb⟩ : ∃ pb, pb = W.heap.size := ⟨_, rfl⟩
      go_wp2_with fail
      obtain ⟨W1, hW1⟩ : ∃ W1, W1 = W.alloc (.cells #[.int .i64 k1, .int .i64 k2, .int .i64 k3, .string k4, .int .i64 (m : Int)] 87) := ⟨_, rfl⟩
      rw [← hW1] at LP T1 e1' B1 ⊢
      rw [← hpb] at LP ⊢
      clear hW1 hpb al c0 c1 c2 c3 c4 e1 d0
      have d0 := Lies.cell (i := 0) T1.out rfl
      have c0 := Lies.cell (i := 0) LP.out rfl
      have c1 := Lies.cell (i := 1) LP.out rfl
      go_quiet (fail)
      obtain ⟨W2, hW2⟩ : ∃ W2, W2 = W1.drewN nq := ⟨_, rfl⟩
      have dr : Below W1.heap.size W1 W2 := by rw [hW2]; exact below_drewN (Below.refl _ _)
      have LP2 := Lib.hid (LP.out.below dr)
      have T2 := Lib.hid (T1.out.below dr)
      have B2 := Lib.hid (B1.out.trans (dr.mono (by rw [HTB.out]; exact B1.out.size)))
      rw [← hW2]
      clear hW2 dr d0 c0 c1 e1' LP T1 B1
      have c0 := Lies.cell (i := 0) LP2.out rfl
      go_wp2
      · rename_i h1 h2
        go_ret
        refine ⟨?_, by rw [← HTB.out]; exact B2.out⟩
        rw [show whole L = false by
          rw [HW.out, HST.out]
          obtain ⟨e1, e2, e3⟩ := HK.out
          have hE := HE.out
          have hB := HEB.out
          rw [if_neg fun h => (by simp at h1; exact h1 (by omega) : False)]]
        cases cor <;> rfl
      · rename_i h1 h2
        go_ret
        refine ⟨?_, by rw [← HTB.out]; exact B2.out⟩
        rw [show whole L = false by
          rw [HW.out, HST.out]
          obtain ⟨e1, e2, e3⟩ := HK.out
          have hE := HE.out
          have hB := HEB.out
          rw [if_neg fun h => first_not h2 (by have := h.2.1; omega)]]
        cases cor <;> rfl
      · rename_i h1 h2 h3 h4 h5
        go_ret
        refine ⟨?_, by rw [← HTB.out]; exact B2.out⟩
        rw [show whole L = false by
          rw [HW.out, HST.out]
          obtain ⟨e1, e2, e3⟩ := HK.out
          have hE := HE.out
          have hB := HEB.out
          have h6 : ends = 1 := by rw [h4] at hB; simpa using hB.symm
          split
          · exact wholeF_many _ _ _ _ (by rw [if_pos (by omega)]; omega)
          · rfl]
        cases cor <;> rfl
      · rename_i h1 h2 h3 h4 h5
        rw [h4] at h5
        cases h5
      · rename_i h1 h2 h3 h4
        go_roundg (N - (i + 1))
        case measure => have := HI.out; omega
        case rel =>
          obtain ⟨e1, e2, e3⟩ := HK.out
          have hE := HE.out
          have hB := HEB.out
          have hg : k2 = q2 := by simpa using h1
          have hf := first_iff h2
          refine ⟨i + 1, 1, by omega, by go_num, by rw [show decide (1 = 1) = true from rfl], by omega, ?_, T2.out, B2.out⟩
          rw [HW.out, HST.out, if_pos ⟨by omega, by rw [← hf]; omega, by omega⟩]
          congr 1
          have h6 : ends ≠ 1 := by rw [h4] at hB; simpa using hB.symm
          rw [if_pos (by omega)]
          omega
      · rename_i h1 h2 h3 h4 h5
        go_ret
        refine ⟨?_, by rw [← HTB.out]; exact B2.out⟩
        rw [show whole L = false by
          rw [HW.out, HST.out]
          obtain ⟨e1, e2, e3⟩ := HK.out
          have hE := HE.out
          have hB := HEB.out
          have h6 : ends ≠ 1 := by cases eb with | false => simpa using hB.symm | true => cases h5
          rw [if_neg fun h => h.2.2 ⟨by omega, by omega⟩]]
        cases cor <;> rfl
      · rename_i h1 h2 h3 h4 h5
        go_roundg (N - (i + 1))
        case measure => have := HI.out; omega
        case rel =>
          obtain ⟨e1, e2, e3⟩ := HK.out
          have hE := HE.out
          have hB := HEB.out
          have hg : k2 = q2 := by simpa using h1
          have hf := first_iff h2
          refine ⟨i + 1, ends, by omega, by go_num, by rw [hB], by omega, ?_, T2.out, B2.out⟩
          rw [HW.out, HST.out, if_pos ⟨by omega, by rw [← hf]; omega, by have h6 : ends = 1 := (by cases eb with | true => simpa using hB.symm | false => cases h5); omega⟩]
          congr 1
          rw [if_neg (by omega)]
          omega
      · rename_i h1 h2 h3 h4 h5
        go_roundg (N - (i + 1))
        case measure => have := HI.out; omega
        case rel =>
          obtain ⟨e1, e2, e3⟩ := HK.out
          have hE := HE.out
          have hB := HEB.out
          have hg : k2 = q2 := by simpa using h1
          have hf := first_iff h2
          refine ⟨i + 1, ends, by omega, by go_num, by rw [hB], by omega, ?_, T2.out, B2.out⟩
          rw [HW.out, HST.out, if_pos ⟨by omega, by rw [← hf]; omega, by omega⟩]
          congr 1
          rw [if_neg (by omega)]
          omega
end Go.Proofs.YtajkldmpllphjaaDoor
