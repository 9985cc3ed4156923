/-
  Texts of one claim, merged.
  TokenRef: The document's Token of chapter 12. The conditions: the vector's cells; a master of at most 5000 bytes.
  RingRef: The document's own two functions of chapter 11. No conditions but those typed.
  ErrRow: An error stays where a block of another make is stored into. No conditions but those typed.
-/
import Derived.Deep.RegionHeld3
import Derived.Test.YtajhegjemhegiaaGreatDoorPart24
import Derived.Test.YtajhegjemhegiaaGreatDoorPart25
import Derived.Test.YtajhegjemhegiaaGreatDoorRefEnc
import Derived.Test.YtajhegjemhegiaaGreatDoorPart26
import Derived.Test.YtajhegjemhegiaaGreatDoorPart21
import Derived.Test.YtajhegjemhegiaaGreatDoorPart08
import Derived.OwnWalk
import Derived.Test.YtajhegjemhegiaaGreatDoorPart20
import Derived.Test.YtajhegjemhegiaaGreatDoorPart07
namespace Go.Proofs.YtajhegjemhegiaaGreatDoor
open Go.RowKit TextNat TokenMath

/-- The token of claims under their own key, or nothing. -/
def tokText (m : ByteArray) (x : ClaimsV) : ByteArray := if x.right = true then txt (tokenOf (nats m) x.t) else ⟨#[]⟩
theorem keepK {W a b : World} {B : Nat} {v : Value} (hB : B < W.heap.size) (h : Below W.heap.size W a ∧ a.cell? ⟨B, 4, none⟩ = some v) (hb : Below a.heap.size a b) : Below W.heap.size W b ∧ b.cell? ⟨B, 4, none⟩ = some v :=
  ⟨h.1.trans (hb.mono h.1.size), (hb.cell (p := ⟨B, 4, none⟩) (Nat.lt_of_lt_of_le hB h.1.size)).trans h.2⟩
set_option maxRecDepth 100000 in
set_option maxHeartbeats 8000000 in
theorem refToken12 (m : ByteArray) (x : ClaimsV) (w : World) (hm : m.size ≤ 5000) (hz : Ints w x.cp x.cl) (hl : x.cl.length ≤ 9223372036854775807) :
    Calls Tryz.prog 11 #[.string m, x.val] w fun e w' => e = .returned (.string (tokText m x)) ∧ Below w.heap.size w w' := by
  have HR := Lib.hid (fun w1 (h : Below w.heap.size w w1) => refRightClaims x w1 (hz.grown h) hl)
  by_cases hr : x.right = true
  · have HI := (rightC_iff x).1 hr
    have hb256 := bytes_lt (rightC_t HI) (t_octs x).session (t_octs x).user
    have hb300 := bytes_short (rightC_t HI)
    have hcb := refClaimsBytes x
    rw [written_claims HI, putText_none] at hcb
    have htok : tokText m x = txt (TextMath.enc (WireMath.claimsBytesT x.t)) ++ ⟨#[46]⟩ ++ txt (TextMath.enc (tagOf (nats m) x.t)) := by
      unfold tokText
      rw [if_pos hr]
      unfold tokenOf TokenMath.tok
      show txt (TextMath.enc (WireMath.claimsBytesT x.t) ++ ([46] ++ TextMath.enc (tagOf (nats m) x.t))) = _
      rw [← txt_append, ← txt_append, ← ByteArray.append_assoc]
      rfl
    have hk : (x.key % 18446744073709551616).toNat = keyN x.t := by
      have := HI.key
      show _ = x.key.toNat
      omega
    obtain ⟨bs, hbs⟩ : ∃ bs, bs = WireMath.claimsBytesT x.t := ⟨_, rfl⟩
    obtain ⟨gs, hgs⟩ : ∃ gs, gs = tagOf (nats m) x.t := ⟨_, rfl⟩
    have hgl : gs.length = 32 := by rw [hgs]; exact tag_len _ _
    have hg256 : ∀ b ∈ gs, b < 256 := by rw [hgs]; exact ShaMath.digest_lt _
    obtain ⟨kk, hkk⟩ : ∃ kk, kk = ShaMath.derive (nats m) (keyN x.t) := ⟨_, rfl⟩
    have hkl : kk.length = 32 := by rw [hkk]; rfl
    have hk256 : ∀ b ∈ kk, b < 256 := by rw [hkk]; exact ShaMath.digest_lt _
    rw [← hbs, ← hgs] at htok
    rw [← hbs] at hb256 hb300 hcb
    obtain ⟨B, hB⟩ : ∃ B, B = txt bs := ⟨_, rfl⟩
    obtain ⟨E1, hE1⟩ : ∃ E1, E1 = txt (TextMath.enc bs) := ⟨_, rfl⟩
    obtain ⟨E2, hE2⟩ : ∃ E2, E2 = txt (TextMath.enc gs) := ⟨_, rfl⟩
    obtain ⟨K, hK⟩ : ∃ K, K = txt kk := ⟨_, rfl⟩
    obtain ⟨G, hG⟩ : ∃ G, G = txt gs := ⟨_, rfl⟩
    have hE1l : E1.size ≤ 1000 := by rw [hE1, txt_len, TokenMath.enc_len]; omega
    have hE2l : E2.size ≤ 1000 := by rw [hE2, txt_len, TokenMath.enc_len]; omega
    rw [← hE1, ← hE2] at htok
    have H1 := Lib.hid (fun w1 => show Calls Tryz.prog 27 #[.string B] w1 (fun e w' => e = .returned (.string E1) ∧ Below w1.heap.size w1 w') by
      have := refEnc B w1 (by rw [hB, txt_len]; omega)
      rw [hB, nats_txt _ hb256, ← hE1, ← hB] at this
      exact this)
    have H2 := Lib.hid (fun w1 => show Calls Tryz.prog 29 #[.string m, .int .i64 x.key] w1 (fun e w' => e = .returned (.string K) ∧ Below w1.heap.size w1 w') by
      have := refDerive m x.key w1 hm
      rw [hk, ← hkk, ← hK] at this
      exact this)
    have H3 := Lib.hid (fun w1 => show Calls Tryz.prog 28 #[.string K, .string B] w1 (fun e w' => e = .returned (.string G) ∧ Below w1.heap.size w1 w') by
      have := refTag K B w1 (by rw [hK, txt_len]; omega) (by rw [hB, txt_len]; omega)
      rw [hK, nats_txt _ hk256, hB, nats_txt _ hb256, hkk, hbs, ← tagOf, ← hgs, ← hG, ← hkk, ← hbs, ← hK, ← hB] at this
      exact this)
    have H4 := Lib.hid (fun w1 => show Calls Tryz.prog 27 #[.string G] w1 (fun e w' => e = .returned (.string E2) ∧ Below w1.heap.size w1 w') by
      have := refEnc G w1 (by rw [hG, txt_len]; omega)
      rw [hG, nats_txt _ hg256, ← hE2, ← hG] at this
      exact this)
    have HEn := Lib.hid (fun u r w1 (h : u = B ∧ r = E1 ∨ u = G ∧ r = E2) => show Calls Tryz.prog 27 #[.string u] w1 (fun e w' => e = .returned (.string r) ∧ Below w1.heap.size w1 w') by
      rcases h with ⟨rfl, rfl⟩ | ⟨rfl, rfl⟩
      · exact H1.out w1
      · exact H4.out w1)
    have HC := Lib.hid (fun w1 (h : Below w.heap.size w w1) => show Calls Tryz.prog 26 #[x.val] w1 (fun e w' => e = .returned (.string B) ∧ Below w1.heap.size w1 w') by
      have h6 := HI.ctx
      rw [trimmed_whole] at h6
      simp only [Bool.and_eq_true, decide_eq_true_eq] at h6
      have := hcb w1 (hz.grown h) ⟨by have := HI.session; omega, by have := HI.user; omega⟩ (by have := h6.1.1; omega)
      rw [← hB] at this
      exact this)
    rw [htok]
    have k1 : ¬ 9223372036854775807 < E1.size + (⟨#[46]⟩ : ByteArray).size := by show ¬ 9223372036854775807 < E1.size + 1; omega
    have k1' : ¬ 9223372036854775807 < E1.size + 1 := k1
    have k2 : ¬ 9223372036854775807 < (E1 ++ (⟨#[46]⟩ : ByteArray)).size + E2.size := by rw [ByteArray.size_append]; show ¬ 9223372036854775807 < E1.size + 1 + E2.size; omega
    have k5 : ¬ 9223372036854775807 < E1.size + 1 + E2.size := by omega
    have HK := Lib.hid (And.intro k1' k5)
    rw [hr] at HR
    clear H1 H4 htok hE1l hE2l hB hE1 hE2 hK hG hcb hb256 hb300 hbs hgs hgl hg256 hkk hkl hk256 HI hk hz hl hm hr k1 k1' k2 k5
    obtain ⟨se, us, ep, is, ky, cp, cl, cc⟩ := x
    simp only [ClaimsV.val] at *
    go_enter Tryz.func11, Tryz.ntmps11
    go_wp2_with fail
    obtain ⟨W, hW⟩ : ∃ W, W = w.alloc (.cells #[.string se, .string us, .int .i64 ep, .int .i64 is, .int .i64 ky, .slice cp cl.length cc] 25) := ⟨_, rfl⟩
    rw [← hW]
    have HB := Lib.hid (show Below w.heap.size w W by rw [hW]; exact (Below.refl _ _).alloc (Nat.le_refl _) _)
    have HRow := Lib.hid (show Row W w.heap.size [.string se, .string us, .int .i64 ep, .int .i64 is, .int .i64 ky, .slice cp cl.length cc] 25 by rw [hW]; exact Row.new w _ _)
    clear hW
    refine (HR.out _ HB.out).mono ?_
    rintro e w1 ⟨rfl, hb⟩
    replace HRow := Lib.hid (HRow.out.below hb)
    replace HB := Lib.hid (HB.out.trans (hb.mono HB.out.size))
    have c0 := HRow.out.cell (i := 0) rfl; have c1 := HRow.out.cell (i := 1) rfl; have c2 := HRow.out.cell (i := 2) rfl; have c3 := HRow.out.cell (i := 3) rfl; have c4 := HRow.out.cell (i := 4) rfl; have c5 := HRow.out.cell (i := 5) rfl
    clear hb
    go_wp2_with fail
    refine (HC.out _ HB.out).mono ?_
    rintro e w2 ⟨rfl, hb⟩
    clear c0 c1 c2 c3 c4 c5
    replace HRow := Lib.hid (HRow.out.below hb)
    replace HB := Lib.hid (HB.out.trans (hb.mono HB.out.size))
    clear hb
    have c4 := HRow.out.cell (i := 4) rfl
    have hlt := HRow.out.lt
    have hs0 : Below w2.heap.size w2 w2.drew ∧ w2.drew.cell? ⟨w.heap.size, 4, none⟩ = some (.int .i64 ky) := ⟨(Below.refl _ _).drew, c4⟩
    obtain ⟨k1, k2⟩ := HK.out
    go_wp2_with fail
    go_region_held3 (fun w' => Below w2.heap.size w2 w' ∧ w'.cell? ⟨w.heap.size, 4, none⟩ = some (.int .i64 ky)) (first | exact hs0 | assumption | (refine keepK hlt ?_ hbb; assumption))
      (first
        | (go_at_call 29; refine (H2.out _).mono ?_; rintro e wn ⟨rfl, hbb⟩)
        | (go_at_call 28; refine (H3.out _).mono ?_; rintro e wn ⟨rfl, hbb⟩)
        | (go_at_call 27; refine (HEn.out _ _ _ (by first | exact .inl ⟨rfl, rfl⟩ | exact .inr ⟨rfl, rfl⟩)).mono ?_; rintro e wn ⟨rfl, hbb⟩))
    all_goals
      have hz9 : Below w2.heap.size w2 wn ∧ wn.cell? ⟨w.heap.size, 4, none⟩ = some (.int .i64 ky) := by assumption
      go_wp2
      go_ret
      exact ⟨rfl, HB.out.trans (hz9.1.mono HB.out.size)⟩
  · rw [show tokText m x = ⟨#[]⟩ from if_neg hr]
    rw [Bool.eq_false_iff.2 hr] at HR
    clear hr hz hl hm
    obtain ⟨se, us, ep, is, ky, cp, cl, cc⟩ := x
    simp only [ClaimsV.val] at *
    go_enter Tryz.func11, Tryz.ntmps11
    go_wp2_with fail
    obtain ⟨W, hW⟩ : ∃ W, W = w.alloc (.cells #[.string se, .string us, .int .i64 ep, .int .i64 is, .int .i64 ky, .slice cp cl.length cc] 25) := ⟨_, rfl⟩
    rw [← hW]
    have HB := Lib.hid (show Below w.heap.size w W by rw [hW]; exact (Below.refl _ _).alloc (Nat.le_refl _) _)
    clear hW
    refine (HR.out _ HB.out).mono ?_
    rintro e w1 ⟨rfl, hb⟩
    go_wp2
    go_ret
    exact ⟨rfl, HB.out.trans (hb.mono HB.out.size)⟩
end Go.Proofs.YtajhegjemhegiaaGreatDoor
namespace Go.Proofs.YtajhegjemhegiaaGreatDoor
open Go.RowKit TextNat

set_option maxRecDepth 100000 in
theorem ref_right (m : ByteArray) (c : Int) (w : World) (hm : m.size ≤ 9223372036854775807) : Calls Tryz.prog 7 #[.string m, .int .i64 c] w fun e w' => e = .returned (.bool (rightB m c)) ∧ w' = w := by
  obtain ⟨k, hk⟩ : ∃ k, k = m.size := ⟨_, rfl⟩
  have e1 : (m.size : Int) = (k : Int) := by omega
  have HQ := Lib.hid (show rightB m c = (decide ((0 : Int) < (k : Int)) && decide ((k : Int) < 65) && decide (0 ≤ c) && decide (c ≤ 1099511627776)) by
    unfold rightB
    rw [← hk]
    rw [Bool.eq_iff_iff]
    simp only [Bool.and_eq_true, decide_eq_true_eq]
    omega)
  have p1 : decide ((0 : Int) < (k : Int)) = decide (0 < k) := by simp
  have p2 : decide ((k : Int) < 65) = decide (k < 65) := decide_eq_decide.2 (by omega)
  rw [p1, p2] at HQ
  clear hk hm p1 p2
  cases q1 : decide (0 < k) <;> cases q2 : decide (k < 65) <;> cases q3 : decide (0 ≤ c) <;> cases q4 : decide (c ≤ 1099511627776)
  all_goals
    have r1 : decide ((0 : Int) < (k : Int)) = decide (0 < k) := by simp
    have r2 : decide ((k : Int) < 65) = decide (k < 65) := decide_eq_decide.2 (by omega)
    rw [q1] at r1
    rw [q2] at r2
    rw [q1, q2, q3, q4] at HQ
    go_enter Tryz.func7, Tryz.ntmps7
    go_wp2
    go_ret
    exact ⟨by rw [HQ.out]; rfl, rfl⟩
set_option maxRecDepth 100000 in
theorem ref_alive (c n : Int) (w : World) (hc : 0 ≤ c ∧ c ≤ 1099511627776) : Calls Tryz.prog 34 #[.int .i64 c, .int .i64 n] w fun e w' => e = .returned (.bool (aliveB c n)) ∧ w' = w := by
  have k1 : IntKind.i64.wrap (c - 2) = c - 2 := by rw [IntKind.wrap_i64]; omega
  clear hc
  unfold aliveB
  cases q1 : decide (0 ≤ n) <;> cases q2 : decide (n ≤ 1099511627776) <;> cases q3 : decide (c - 2 ≤ n)
  all_goals
    go_enter Tryz.func34, Tryz.ntmps34
    go_wp2
    go_ret
    exact ⟨rfl, rfl⟩
end Go.Proofs.YtajhegjemhegiaaGreatDoor
namespace Go.Proofs.YtajhegjemhegiaaGreatDoor
open Go.RowKit

theorem below_at8 {B g : Nat} {a w : World} (h : Below B a w) (hg : B ≤ g) (j : Nat) (v : Value) : Below B a (w.setCell ⟨g, j, none⟩ v) :=
  ⟨h.os, h.tape, h.output, by have := h.size; simpa [World.setCell] using this, fun k hk => (Below.heap_setCell _ _ _ _ (by show k ≠ g; omega)).trans (h.block k hk)⟩
theorem chain_but_row {w w' : World} {b B B' : Nat} {l : List Value} {T : TypeId} {v0 : Value} {u1 : ByteArray} (hb : But b w w') (hrow : Row w b (v0 :: .string u1 :: l) T) (hB : B ≤ B') : ∀ {ws : List Wrap} {last v : Value}, Chain B w ws last v → Chain B' w' ws last v
  | [], _, _, h => h
  | _ :: _, _, _, ⟨q, u, h1, h2, h3, h4, h5, h6⟩ => by
    have hne : q ≠ b := fun e => by
      subst e
      have := hrow.cell (i := 1) rfl
      rw [h4] at this
      cases this
    exact ⟨q, u, h1, Nat.lt_of_lt_of_le h2 hB, (hb.cell (cell_lt h3) hne).trans h3, (hb.cell (cell_lt h4) hne).trans h4, (hb.cell (cell_lt h5) hne).trans h5, chain_but_row hb hrow hB h6⟩
theorem ErrIs.but_row {w w' : World} {b : Nat} {l : List Value} {T : TypeId} {v0 x : Value} {u1 : ByteArray} {c : Int} (h : ErrIs w c x) (hb : But b w w') (hrow : Row w b (v0 :: .string u1 :: l) T) : ErrIs w' c x := by
  obtain ⟨ws, h⟩ := h
  exact ⟨ws, chain_but_row hb hrow hb.size h⟩
end Go.Proofs.YtajhegjemhegiaaGreatDoor
