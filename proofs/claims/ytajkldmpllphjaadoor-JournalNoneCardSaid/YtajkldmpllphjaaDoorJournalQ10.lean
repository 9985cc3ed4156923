/-
  The program's gen and relied of chapter 10. The conditions: parts that lie in memory.
-/
import Derived.Test.YtajkldmpllphjaaDoorJournalQ9
import Derived.Deep.RegionHeld3
namespace Go.Proofs.YtajkldmpllphjaaDoor
open Go.RowKit BlockMath FrameMath TextNat JournalMath

theorem below_drawn {B : Nat} {a w : World} (h : Below B a w) (n : Nat) : Below B a (w.drewN n) := ⟨h.os, h.tape, h.output, h.size, h.block⟩
def headGen (L : List Part) : Nat := (L.head?.map Part.gen).getD 0
def begunB (L : List Part) : Bool := ((L.head?.map Part.kind).getD 0) == 1
def reliedB (L M : List Part) (c : Bool) : Bool := !begunB L || !(!c && whole M) || decide (headGen M ≤ headGen L)
set_option maxRecDepth 100000 in
set_option maxHeartbeats 4000000 in
theorem phead_ok (pp : Option Addr) (cap : Nat) (L : List Part) (en : Int) (cor : Bool) (w : World) (hp : PartsIn w pp (pairs L 0)) (hl : L.length ≤ 1000000) :
    Calls Tryd.prog 33 #[.agg #[.slice pp L.length cap, .int .i64 en, .bool cor]] w fun e w' => e = .returned (.int .i64 (headGen L : Int)) ∧ Below w.heap.size w w' := by
  obtain ⟨N, hN⟩ : ∃ N, N = L.length := ⟨_, rfl⟩
  have HN := Lib.hid hN
  have hN9 : N ≤ 1000000 := by rw [hN]; exact hl
  rw [← hN]
  have B0 := Lib.hid ((Below.refl w.heap.size w).alloc (Nat.le_refl _) (.cells #[.slice pp N cap, .int .i64 en, .bool cor] 61))
  by_cases h0 : N = 0
  · have HG := Lib.hid (show headGen L = 0 by
      unfold headGen
      rw [List.eq_nil_of_length_eq_zero (show L.length = 0 by omega)]
      rfl)
    subst h0
    clear hN hl hp
    go_enter Tryd.func33, Tryd.ntmps33
    go_wp2
    go_ret
    exact ⟨by rw [HG.out]; rfl, B0.out⟩
  · obtain ⟨p0, hp0⟩ : ∃ p, L[0]? = some p := ⟨_, List.getElem?_eq_getElem (by omega)⟩
    obtain ⟨b, off, m, rfl, -, -, e1, -, -, -⟩ := hp.at_ hp0
    have HG := Lib.hid (show headGen L = p0.gen by unfold headGen; rw [List.head?_eq_getElem?, hp0]; rfl)
    obtain ⟨g, hg⟩ : ∃ g, g = p0.gen := ⟨_, rfl⟩
    rw [← hg] at HG e1
    replace e1 : w.cell? ⟨b, off + 1, none⟩ = some (.int .i64 (g : Int)) := by simpa using e1
    have e2 := (B0.out.cell (p := ⟨b, off + 1, none⟩) (World.block_lt_of_cell? w _ e1)).trans e1
    have t0 : ((N : Int) == 0) = false := by rw [beq_eq_false_iff_ne]; omega
    have t0' : (N == 0) = false := by rw [beq_eq_false_iff_ne]; omega
    have hN0 : 0 < N := by omega
    have hN0' : (0 : Int) < (N : Int) := by omega
    clear hN hl hp hp0 hg e1 h0
    go_enter Tryd.func33, Tryd.ntmps33
    go_wp2
    go_ret
    exact ⟨by rw [HG.out]; rfl, B0.out⟩
theorem keepSix {W w w' : World} {A B : Nat} {u0 u1 u2 v0 v1 v2 : Value} (h : Below W.heap.size W w ∧ w.cell? ⟨A, 0, none⟩ = some u0 ∧ w.cell? ⟨A, 1, none⟩ = some u1 ∧ w.cell? ⟨A, 2, none⟩ = some u2 ∧ w.cell? ⟨B, 0, none⟩ = some v0 ∧ w.cell? ⟨B, 1, none⟩ = some v1 ∧ w.cell? ⟨B, 2, none⟩ = some v2) (hb : Below w.heap.size w w') :
    Below W.heap.size W w' ∧ w'.cell? ⟨A, 0, none⟩ = some u0 ∧ w'.cell? ⟨A, 1, none⟩ = some u1 ∧ w'.cell? ⟨A, 2, none⟩ = some u2 ∧ w'.cell? ⟨B, 0, none⟩ = some v0 ∧ w'.cell? ⟨B, 1, none⟩ = some v1 ∧ w'.cell? ⟨B, 2, none⟩ = some v2 := by
  obtain ⟨h0, h1, h2, h3, h4, h5, h6⟩ := h
  exact ⟨h0.trans (hb.mono h0.size), (hb.cell (World.block_lt_of_cell? w _ h1)).trans h1, (hb.cell (World.block_lt_of_cell? w _ h2)).trans h2, (hb.cell (World.block_lt_of_cell? w _ h3)).trans h3, (hb.cell (World.block_lt_of_cell? w _ h4)).trans h4, (hb.cell (World.block_lt_of_cell? w _ h5)).trans h5, (hb.cell (World.block_lt_of_cell? w _ h6)).trans h6⟩
set_option maxRecDepth 100000 in
set_option maxHeartbeats 8000000 in
theorem prelied_ok (pp : Option Addr) (cap : Nat) (L : List Part) (en : Int) (cor : Bool) (pq : Option Addr) (caq : Nat) (M : List Part) (em : Int) (com : Bool) (w : World) (hp : PartsIn w pp (pairs L 0)) (hl : L.length ≤ 1000000) (hq : PartsIn w pq (pairs M 0)) (hm : M.length ≤ 1000000) :
    Calls Tryd.prog 31 #[.agg #[.slice pp L.length cap, .int .i64 en, .bool cor], .agg #[.slice pq M.length caq, .int .i64 em, .bool com]] w fun e w' => e = .returned (.bool (reliedB L M com)) ∧ Below w.heap.size w w' := by
  have HW := Lib.hid (fun wx (h : Below w.heap.size w wx) => pwhole_ok pq caq M em com wx (hq.below h) hm (headGen M) rfl)
  have HGM := Lib.hid (fun wx (h : Below w.heap.size w wx) => phead_ok pq caq M em com wx (hq.below h) hm)
  have HGL := Lib.hid (fun wx (h : Below w.heap.size w wx) => phead_ok pp cap L en cor wx (hp.below h) hl)
  obtain ⟨N, hN⟩ : ∃ N, N = L.length := ⟨_, rfl⟩
  obtain ⟨K, hK⟩ : ∃ K, K = M.length := ⟨_, rfl⟩
  have HN := Lib.hid hN
  have hN9 : N ≤ 1000000 := by rw [hN]; exact hl
  rw [← hN] at HGL ⊢
  rw [← hK] at HW HGM ⊢
  obtain ⟨W0, hW0⟩ : ∃ W0, W0 = (w.alloc (.cells #[.slice pp N cap, .int .i64 en, .bool cor] 61)).alloc (.cells #[.slice pq K caq, .int .i64 em, .bool com] 61) := ⟨_, rfl⟩
  have B0 := Lib.hid (show Below w.heap.size w W0 by rw [hW0]; exact below_pair w _ _)
  have LA := Lib.hid (show Lies W0 w.heap.size [.slice pp N cap, .int .i64 en, .bool cor] 61 by rw [hW0]; exact (Lies.new w [.slice pp N cap, .int .i64 en, .bool cor] 61).below ((Below.refl _ _).alloc (Nat.le_refl _) _))
  have LB := Lib.hid (show Lies W0 (w.heap.size + 1) [.slice pq K caq, .int .i64 em, .bool com] 61 by rw [hW0]; simpa using Lies.new (w.alloc (.cells #[.slice pp N cap, .int .i64 en, .bool cor] 61)) [.slice pq K caq, .int .i64 em, .bool com] 61)
  have HW0 := Lib.hid hW0
  obtain ⟨A, hA⟩ : ∃ A, A = w.heap.size := ⟨_, rfl⟩
  obtain ⟨B, hB⟩ : ∃ B, B = w.heap.size + 1 := ⟨_, rfl⟩
  have HA := Lib.hid hA
  have HB := Lib.hid (show B = A + 1 by rw [hB, hA])
  rw [← hA] at LA
  rw [← hB] at LB
  have hz0 := And.intro (Below.refl W0.heap.size W0) (And.intro (LA.out.cell (i := 0) rfl) (And.intro (LA.out.cell (i := 1) rfl) (And.intro (LA.out.cell (i := 2) rfl) (And.intro (LB.out.cell (i := 0) rfl) (And.intro (LB.out.cell (i := 1) rfl) (LB.out.cell (i := 2) rfl))))))
  have HZ0 := Lib.hid hz0
  obtain ⟨bg, hbg⟩ : ∃ bg, bg = begunB L := ⟨_, rfl⟩
  have HBG := Lib.hid hbg
  by_cases h0 : N = 0
  · have HR := Lib.hid (show reliedB L M com = true by
      unfold reliedB begunB
      rw [List.eq_nil_of_length_eq_zero (show L.length = 0 by omega)]
      rfl)
    subst h0
    have c0 := LA.out.cell (i := 0) rfl
    clear hN hK hl hp hq hm hW0 hA hB hz0 hbg
    go_enter Tryd.func31, Tryd.ntmps31
    go_wp2_with fail
    rw [← HW0.out, ← HA.out]
    go_quiet (fail)
    have HF := Lib.hid (below_drawn B0.out nq)
    go_wp2
    go_ret
    exact ⟨by rw [HR.out]; rfl, HF.out⟩
  · obtain ⟨p0, hp0⟩ : ∃ p, L[0]? = some p := ⟨_, List.getElem?_eq_getElem (by omega)⟩
    obtain ⟨b, off, m, rfl, -, e0, -, -, -, -⟩ := hp.at_ hp0
    have HBK := Lib.hid (show begunB L = ((p0.kind : Int) == 1) by
      unfold begunB
      rw [List.head?_eq_getElem?, hp0, Bool.eq_iff_iff, beq_iff_eq, beq_iff_eq]
      show p0.kind = 1 ↔ (p0.kind : Int) = 1
      omega)
    obtain ⟨k, hk⟩ : ∃ k : Int, k = (p0.kind : Int) := ⟨_, rfl⟩
    rw [← hk] at HBK e0
    replace e0 : w.cell? ⟨b, off, none⟩ = some (.int .i64 k) := by simpa using e0
    have e2 := (B0.out.cell (p := ⟨b, off, none⟩) (World.block_lt_of_cell? w _ e0)).trans e0
    rw [hW0] at e2
    have hN0 : 0 < N := by omega
    have hN0' : (0 : Int) < (N : Int) := by omega
    have t0 : decide ((0 : Int) < (N : Int)) = true := decide_eq_true hN0'
    have t0' : decide (0 < N) = true := decide_eq_true hN0
    have c0 := LA.out.cell (i := 0) rfl
    cases hkk : (k == 1) with
    | false =>
      have HR := Lib.hid (show reliedB L M com = true by
        unfold reliedB
        rw [HBK.out, hkk]
        rfl)
      clear hN hK hl hp hq hm hW0 hA hB hz0 hbg hp0 hk e0 h0
      go_enter Tryd.func31, Tryd.ntmps31
      go_wp2_with fail
      rw [← HW0.out, ← HA.out]
      go_quiet (fail)
      have HF := Lib.hid (below_drawn B0.out nq)
      go_wp2
      go_ret
      exact ⟨by rw [HR.out]; rfl, HF.out⟩
    | true =>
      have HRB := Lib.hid (show begunB L = true by rw [HBK.out, hkk])
      obtain ⟨bw, hbw⟩ : ∃ bw, bw = (!com && whole M) := ⟨_, rfl⟩
      rw [← hbw] at HW
      have HBW := Lib.hid hbw
      obtain ⟨g1, hg1⟩ : ∃ g1, g1 = headGen M := ⟨_, rfl⟩
      obtain ⟨g2, hg2⟩ : ∃ g2, g2 = headGen L := ⟨_, rfl⟩
      rw [← hg1] at HGM
      rw [← hg2] at HGL
      have HGG := Lib.hid (And.intro hg1 hg2)
      have HW' := Lib.hid (fun wx (h : Below W0.heap.size W0 wx ∧ wx.cell? ⟨A, 0, none⟩ = some (.slice (some ⟨b, off, none⟩) N cap) ∧ wx.cell? ⟨A, 1, none⟩ = some (.int .i64 en) ∧ wx.cell? ⟨A, 2, none⟩ = some (.bool cor) ∧ wx.cell? ⟨B, 0, none⟩ = some (.slice pq K caq) ∧ wx.cell? ⟨B, 1, none⟩ = some (.int .i64 em) ∧ wx.cell? ⟨B, 2, none⟩ = some (.bool com)) => HW.out wx (B0.out.trans (h.1.mono B0.out.size)))
      have HGM' := Lib.hid (fun wx (h : Below W0.heap.size W0 wx ∧ wx.cell? ⟨A, 0, none⟩ = some (.slice (some ⟨b, off, none⟩) N cap) ∧ wx.cell? ⟨A, 1, none⟩ = some (.int .i64 en) ∧ wx.cell? ⟨A, 2, none⟩ = some (.bool cor) ∧ wx.cell? ⟨B, 0, none⟩ = some (.slice pq K caq) ∧ wx.cell? ⟨B, 1, none⟩ = some (.int .i64 em) ∧ wx.cell? ⟨B, 2, none⟩ = some (.bool com)) => HGM.out wx (B0.out.trans (h.1.mono B0.out.size)))
      have HGL' := Lib.hid (fun wx (h : Below W0.heap.size W0 wx ∧ wx.cell? ⟨A, 0, none⟩ = some (.slice (some ⟨b, off, none⟩) N cap) ∧ wx.cell? ⟨A, 1, none⟩ = some (.int .i64 en) ∧ wx.cell? ⟨A, 2, none⟩ = some (.bool cor) ∧ wx.cell? ⟨B, 0, none⟩ = some (.slice pq K caq) ∧ wx.cell? ⟨B, 1, none⟩ = some (.int .i64 em) ∧ wx.cell? ⟨B, 2, none⟩ = some (.bool com)) => HGL.out wx (B0.out.trans (h.1.mono B0.out.size)))
      clear hN hK hl hp hq hm hW0 hA hB hz0 hbg hp0 hk e0 h0 hbw hg1 hg2 HW HGM HGL
      cases hbb : bw with
      | false =>
        rw [hbb] at HW' HBW
        have HR := Lib.hid (show reliedB L M com = true by
          unfold reliedB
          rw [HRB.out, ← HBW.out]
          rfl)
        go_enter Tryd.func31, Tryd.ntmps31
        go_wp2_with fail
        rw [← HW0.out, ← HA.out, ← HB.out]
        have hz1 := HZ0.out
        have hzd := keepSix hz1 (Below.refl _ _).drew
        obtain ⟨-, a0, a1, a2, b0, b1, b2⟩ := id hzd
        go_region_with (first
          | (go_at_call 32; refine (HW'.out _ hzd).mono ?_; rintro e wn ⟨rfl, hbb2⟩; have hz3 := keepSix hzd hbb2; clear HW'; obtain ⟨-, p0, p1, p2, q0, q1, q2⟩ := id hz3)
          | (go_at_call 33; refine (HGM'.out _ hz3).mono ?_; rintro e wn2 ⟨rfl, hbb3⟩; have hz4 := keepSix hz3 hbb3; clear HGM'; obtain ⟨-, r0, r1, r2, s0, s1, s2⟩ := id hz4)
          | (go_at_call 33; refine (HGL'.out _ hz4).mono ?_; rintro e wn3 ⟨rfl, hbb4⟩; have hz5 := keepSix hz4 hbb4; clear HGL'))
        all_goals
          go_wp2
          go_ret
          exact ⟨by rw [HR.out]; rfl, B0.out.trans (hz3.1.mono B0.out.size)⟩
      | true =>
        rw [hbb] at HW' HBW
        have HR := Lib.hid (show reliedB L M com = decide (g1 ≤ g2) by
          unfold reliedB
          rw [HRB.out, ← HBW.out, HGG.out.1, HGG.out.2]
          rfl)
        go_enter Tryd.func31, Tryd.ntmps31
        go_wp2_with fail
        rw [← HW0.out, ← HA.out, ← HB.out]
        have hz1 := HZ0.out
        have hzd := keepSix hz1 (Below.refl _ _).drew
        obtain ⟨-, a0, a1, a2, b0, b1, b2⟩ := id hzd
        go_region_with (first
          | (go_at_call 32; refine (HW'.out _ hzd).mono ?_; rintro e wn ⟨rfl, hbb2⟩; have hz3 := keepSix hzd hbb2; clear HW'; obtain ⟨-, p0, p1, p2, q0, q1, q2⟩ := id hz3)
          | (go_at_call 33; refine (HGM'.out _ hz3).mono ?_; rintro e wn2 ⟨rfl, hbb3⟩; have hz4 := keepSix hz3 hbb3; clear HGM'; obtain ⟨-, r0, r1, r2, s0, s1, s2⟩ := id hz4)
          | (go_at_call 33; refine (HGL'.out _ hz4).mono ?_; rintro e wn3 ⟨rfl, hbb4⟩; have hz5 := keepSix hz4 hbb4; clear HGL'))
        all_goals
          go_wp2
          go_ret
          exact ⟨by rw [HR.out]; first | rfl | simp, B0.out.trans (hz5.1.mono B0.out.size)⟩
end Go.Proofs.YtajkldmpllphjaaDoor
