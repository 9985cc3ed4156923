/-
  The program's cutToMark of chapter 10. The conditions: parts and a device that lie in memory, apart.
-/
import Derived.Test.YtajkldmpllphjaaDoorJournalQ11
import Derived.Test.YtajkldmpllphjaaDoorPart08
namespace Go.Proofs.YtajkldmpllphjaaDoor
open Go.RowKit BlockMath FrameMath TextNat JournalMath

theorem dev_drew {w : World} {b : Nat} {S : Nat → Prop} {d : Dk} (h : dev.at_ w b S d) : dev.at_ w.drew b S d := dev.stays h (Nat.le_refl _) fun _ _ => rfl
/-- What cutToMark leaves of the parts, and does to the device. -/
def markN (L : List Part) : Nat := if sealedN L = 0 then L.length else sealedN L
def markD (L : List Part) (d : Dk) : Int × Dk := if sealedN L = 0 then (0, d) else cut (placeOf L (sealedN L) : Int) d
theorem PartsIn.same {w w' : World} {pp : Option Addr} {A : List (Part × Nat)} (h : PartsIn w pp A) (hk : ∀ a, pp = some a → w'.heap[a.block]? = w.heap[a.block]?) : PartsIn w' pp A := fun i a ha => by
  obtain ⟨b, off, rfl, hc⟩ := h i a ha
  refine ⟨b, off, rfl, fun j u hu => ?_⟩
  have h2 := hk _ rfl
  rw [← hc j u hu]
  unfold World.cell?
  simp only [h2]
set_option maxRecDepth 100000 in
set_option maxHeartbeats 8000000 in
theorem pcutmark_ok (b : Nat) (S : Nat → Prop) (d : Dk) (pp : Option Addr) (cap : Nat) (L : List Part) (w : World) (h : dev.at_ w b S d) (ok : Ok d) (hp : PartsIn w pp (pairs L 0)) (hl : L.length ≤ 500000) (hc : L.length ≤ cap) (hz : (enc L).length ≤ 16000000) :
    Calls Tryd.prog 49 #[ptr b, .slice pp L.length cap] w fun e w' => (∃ x, e = .returned (.tuple #[.slice pp (markN L) cap, x]) ∧ TErr w' (markD L d).1 x) ∧ Does dev w b S (markD L d).2 w' := by
  have HX := Lib.hid hp
  obtain ⟨N, hN⟩ : ∃ N, N = L.length := ⟨_, rfl⟩
  have HN := Lib.hid hN
  have hN9 : N ≤ 500000 := by rw [hN]; exact hl
  rw [← hN] at hc ⊢
  have HC := Lib.hid hc
  have HZ := Lib.hid hz
  have HD := Lib.hid h
  have OK := Lib.hid ok
  have B0 := Lib.hid (Below.refl w.heap.size w)
  clear hp hN hl hc h ok hz
  go_enter Tryd.func49, Tryd.ntmps49
  go_wp2_with fail
  go_loopg [6] N (fun gh s6 wx => ∃ n : Nat, n = gh ∧ n ≤ N ∧ s6 = .int .i64 (n : Int) ∧ (∀ j q, n ≤ j → L[j]? = some q → q.kind ≠ 4) ∧ Below w.heap.size w wx)
  case atStart => exact ⟨N, rfl, Nat.le_refl _, by go_num, fun j q hj hq => by have := (List.getElem?_eq_some_iff.1 hq).1; have := HN.out; omega, B0.out⟩
  case round =>
    obtain ⟨n, hn, hnN, rfl, hno, hb⟩ := hrel
    rename World => W
    have HNO := Lib.hid hno
    have HB := Lib.hid hb
    have HI := Lib.hid (And.intro hn hnN)
    by_cases h0 : n = 0
    case pos =>
      subst h0
      have HM := Lib.hid (show sealedN L = 0 from sealedN_none fun q hq => by
        obtain ⟨j, hj⟩ := List.getElem?_of_mem hq
        exact HNO.out j q (Nat.zero_le _) hj)
      have HD2 := Lib.hid (Been.start HD.out |>.below HB.out)
      have HMN := Lib.hid (show markN L = N by unfold markN; rw [if_pos HM.out, HN.out])
      have HMD := Lib.hid (show markD L d = (0, d) by unfold markD; rw [if_pos HM.out])
      clear hn hnN hno hb
      go_wp2
      go_ret2
      rw [HMN.out, HMD.out]
      exact ⟨⟨.nilIface, rfl, by unfold TErr; rw [if_pos rfl]⟩, HD2.out.to⟩
    case neg =>
      have t0 : decide ((0 : Int) < (n : Int)) = true := decide_eq_true (by omega)
      have t0' : decide (0 < n) = true := decide_eq_true (by omega)
      obtain ⟨i, hi⟩ : ∃ i, n = i + 1 := ⟨n - 1, by omega⟩
      subst hi
      have k1w : IntKind.i64.wrap (((i + 1 : Nat) : Int) - 1) = (i : Int) := by rw [IntKind.wrap_i64]; omega
      have hiN : i < N := by omega
      obtain ⟨p, hp⟩ : ∃ p, L[i]? = some p := ⟨_, List.getElem?_eq_getElem (by rw [← HN.out]; exact hiN)⟩
      obtain ⟨pb, off, m, rfl, hm, c0, c1, c2, c3, c4⟩ := (HX.out.below HB.out).at_ hp
      have HPL := Lib.hid (show (m : Int) = (placeOf L (i + 1) : Int) by rw [hm]; rfl)
      have HM16 := Lib.hid (show m ≤ 16000000 by
        have h1 := HZ.out
        have h2 : (enc L).length = (enc (L.take (i + 1))).length + (enc (L.drop (i + 1))).length := by rw [← List.length_append, ← enc_append, List.take_append_drop]
        omega)
      obtain ⟨k1, hk1⟩ : ∃ k1 : Int, k1 = (p.kind : Int) := ⟨_, rfl⟩
      obtain ⟨k2, hk2⟩ : ∃ k2 : Int, k2 = (p.gen : Int) := ⟨_, rfl⟩
      obtain ⟨k3, hk3⟩ : ∃ k3 : Int, k3 = (p.place : Int) := ⟨_, rfl⟩
      obtain ⟨k4, hk4⟩ : ∃ k4, k4 = txt p.text := ⟨_, rfl⟩
      rw [← hk1] at c0
      rw [← hk2] at c1
      rw [← hk3] at c2
      rw [← hk4] at c3
      have al := (Below.refl W.heap.size W).alloc (Nat.le_refl _) (.cells #[.int .i64 k1, .int .i64 k2, .int .i64 k3, .string k4, .int .i64 (m : Int)] 87)
      have B1 := Lib.hid (HB.out.trans (al.mono HB.out.size))
      by_cases hk : p.kind = 4
      · have t4 : (k1 == 4) = true := by rw [beq_iff_eq]; omega
        have HSN := Lib.hid (show sealedN L = i + 1 from sealed_at hp hk fun j q hj hq => HNO.out j q (by omega) hq)
        have HMN := Lib.hid (show markN L = i + 1 by unfold markN; rw [HSN.out, if_neg (by omega)])
        have HMD := Lib.hid (show markD L d = cut (m : Int) d by unfold markD; rw [HSN.out, if_neg (by omega), HPL.out])
        obtain ⟨W1, hW1⟩ : ∃ W1, W1 = W.alloc (.cells #[.int .i64 k1, .int .i64 k2, .int .i64 k3, .string k4, .int .i64 (m : Int)] 87) := ⟨_, rfl⟩
        have HW1 := Lib.hid hW1
        have LP := Lib.hid (show Lies W1 W.heap.size [.int .i64 k1, .int .i64 k2, .int .i64 k3, .string k4, .int .i64 (m : Int)] 87 by rw [hW1]; exact Lies.new W _ _)
        rw [← hW1] at B1
        have HB1 := Lib.hid (Been.start HD.out |>.below B1.out)
        have hcap : i + 1 ≤ cap := by have := HI.out; have := HC.out; omega
        have hcap' : ((i + 1 : Nat) : Int) ≤ (cap : Int) := by omega
        have HCut := Lib.hid (cutOk b S d (m : Int) W1.drew (dev_drew HB1.out.at_) OK.out (by have := HM16.out; unfold I64; omega))
        obtain ⟨qb, hqb⟩ : ∃ qb, qb = W.heap.size := ⟨_, rfl⟩
        have HQB := Lib.hid hqb
        rw [← hqb] at LP
        clear hn hnN hno hb hp hk1 hk2 hk3 hk4 al hk hm hW1 hqb
        go_wp2_with fail
        rw [← HW1.out, ← HQB.out]
        have c4' := Lies.cell (i := 4) LP.out rfl
        have c4d : W1.drew.cell? ⟨qb, 4, none⟩ = some (.int .i64 (m : Int)) := c4'
        go_region_with (go_at_call 44; refine HCut.out.mono ?_; rintro e w9 ⟨⟨y, rfl, hy⟩, hd⟩; have HY := Lib.hid hy; have HDD := Lib.hid hd; clear hy hd)
        all_goals
          have hbd : Been w b S d W1.drew S := ⟨dev_drew HB1.out.at_, HB1.out.incl, HB1.out.apart.trans (Apart.of (Below.refl _ _).drew)⟩
          obtain ⟨S9, hb9⟩ := hbd.does HDD.out
          go_wp2
          go_ret2
          rw [HMN.out, HMD.out]
          exact ⟨⟨_, rfl, TErr.of HY.out⟩, hb9.to⟩
      · have t4 : (k1 == 4) = false := by rw [beq_eq_false_iff_ne]; omega
        have HNK := Lib.hid (show ∀ j q, i ≤ j → L[j]? = some q → q.kind ≠ 4 from fun j q hj hq => by
          by_cases hji : j = i
          · subst hji
            rw [hp] at hq
            rw [← Option.some.inj hq]
            exact hk
          · exact HNO.out j q (by omega) hq)
        clear hn hnN hno hb hp hk1 hk2 hk3 hk4 al hk hm
        go_wp2
        go_roundg i
        case measure => have := HI.out; omega
        case rel => exact ⟨i, rfl, by omega, by go_num, HNK.out, B1.out⟩
end Go.Proofs.YtajkldmpllphjaaDoor
