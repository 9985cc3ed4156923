/-
  The program's lost of chapter 10: does a later part say that what stood where the parts end was safe? The conditions: crc's tables; texts of at most 16,000,000 bytes.
-/
import Derived.Test.YtajkldmpllphjaaDoorPart07
import Derived.Test.YtajkldmpllphjaaDoorJournalP2
namespace Go.Proofs.YtajkldmpllphjaaDoor
open Go.RowKit FrameMath TextNat JournalMath

/-- append of a part onto a row of one's own. -/
theorem app_part {ops : Array Oper} {rest : List Oper} {o : Oper} {ac : Act} {Q : Exit → Act → World → Prop} {w : World} (hgd : o.guard = none) (s x : Operand)
    (ho : o.op = .call { callee := .builtin .append, args := #[s, x], argTypes := #[59, 59] })
    (B : Nat) (v : Value) (A : List (Part × Nat)) (a : Part × Nat) (hs : ac.eval s = v) (hown : OwnP w B v A) (ad : Addr) (hx : ac.eval x = .slice (some ad) 1 1)
    (hnews : ∀ (j : Nat) (u : Value), (ptCells a)[j]? = some u → w.cell? (ad.add j) = some u) (hz : A.length ≤ 1000000) (hB : B ≤ w.heap.size)
    (h : ∀ v' w', OwnP w' B v' (A ++ [a]) → Below B w w' → w.grownBy w' v.ownBlock → wpList Tryd.prog ops Q rest (ac.put o.dst v') w') : wpList Tryd.prog ops Q (o :: rest) ac w := by
  obtain ⟨ii, hii, hi0, hi1, hi2⟩ := info_parts info_part
  refine wpList_append_own _ hgd s x 59 ho B 87 ii _ 5 48 Tryd.underlying59 hii hi0 hi1 hi2 rfl (by decide) v A.length (A.flatMap ptCells) hs hown ad 1 1 (ptCells a) hx rfl hnews (ptCells_one a) (by unfold maxLen; omega) (by omega) hB ?_
  intro v' w' h1 h2 _
  exact h v' w' (OwnP.more h1) ((Below.refl B w).grown h2 hB fun q hq => hown.blk q hq) h2
/-- What a search from a place on comes to. -/
theorem search_on {l : List Nat} (hl : Oct l) {k : Nat} (h : NoMore l (endOf l) k) : (findF l (k : Int) = -1 ∧ corrupt l = false) ∨ ∃ j : Nat, findF l (k : Int) = (j : Int) ∧ k ≤ j ∧ j < l.length ∧ NoMore l (endOf l) j := by
  rcases findF_cases l k with ⟨h1, h2⟩ | ⟨j, h1, h2, h3, h4⟩
  · exact .inl ⟨h1, h.end hl h2⟩
  · exact .inr ⟨j, h1, h2, h3, h.over hl h4⟩
set_option maxRecDepth 100000 in
set_option maxHeartbeats 8000000 in
theorem plost_ok (s : ByteArray) (i : Nat) (w : World) (hT : Tables w) (hs : s.size ≤ 16000000) (hi : i ≤ s.size) (he : endOf (nats s) = i) (hat0 : atP (nats s) i = none) :
    Calls Tryd.prog 48 #[.string s, .int .i64 (i : Int)] w fun e w' => e = .returned (.bool (corrupt (nats s))) ∧ Below w.heap.size w w' := by
  obtain ⟨l, hl⟩ : ∃ l, l = nats s := ⟨_, rfl⟩
  have HO := Lib.hid (show Oct l by rw [hl]; exact nats_ok s)
  have HL := Lib.hid (show l.length = s.size by rw [hl, nats_len])
  have HR := Lib.hid (fun (i : Nat) (w1 : World) (h : Tables w1) (hi : i ≤ 16000000) => pread_ok s i w1 h (by omega) (by omega))
  have HF := Lib.hid (fun (k : Int) (w1 : World) (hk : I64 k) => findBig s k w1 (by omega) hk)
  have HT := Lib.hid hT
  rw [← hl] at HR HF he hat0 ⊢
  obtain ⟨n, hn⟩ : ∃ n, n = l.length := ⟨_, rfl⟩
  have HN := Lib.hid hn
  have hn2 : n ≤ 16000000 := by rw [hn, HL.out]; exact hs
  have HI := Lib.hid (show i ≤ n by rw [hn, HL.out]; exact hi)
  have HEN := Lib.hid he
  have HA0 := Lib.hid hat0
  have B0 := Lib.hid (Below.refl w.heap.size w)
  have HS := Lib.hid (show ∀ k : Nat, i ≤ k → NoMore l i k → (findF l (k : Int) = -1 ∧ corrupt l = false) ∨ ∃ j : Nat, findF l (k : Int) = (j : Int) ∧ k ≤ j ∧ j < n ∧ NoMore l i j from fun k _ hk => by
    have := search_on HO.out (k := k) (by rw [HEN.out]; exact hk)
    rwa [HEN.out, ← HN.out] at this)
  clear hT hl hn hs hi he hat0
  go_enter Tryd.func48, Tryd.ntmps48
  go_wp2_with fail
  refine (HF.out (i : Int) w (by have := HI.out; unfold I64; omega)).mono ?_
  rintro e w1 ⟨rfl, hb⟩
  have B1 := Lib.hid (B0.out.trans (hb.mono B0.out.size))
  obtain ⟨z0, hz0⟩ : ∃ z0, z0 = findF l (i : Int) := ⟨_, rfl⟩
  have H0 := Lib.hid (show (z0 = -1 ∧ corrupt l = false) ∨ ∃ j : Nat, z0 = (j : Int) ∧ i ≤ j ∧ j < n ∧ NoMore l i j by
    rw [hz0]
    exact HS.out i (Nat.le_refl _) (fun k p m h1 h2 _ => by omega))
  rw [← hz0]
  clear hb hz0 B0
  go_wp2_with fail
  go_loopg [5] n (fun gh s5 wx => ((s5 = .int .i64 (-1) ∧ corrupt l = false) ∨ ∃ j : Nat, n ≤ j + gh ∧ s5 = .int .i64 (j : Int) ∧ i ≤ j ∧ j < n ∧ NoMore l i j) ∧ Below w.heap.size w wx)
  case atStart =>
    refine ⟨?_, B1.out⟩
    rcases H0.out with ⟨h1, h2⟩ | ⟨j, h1, h2, h3, h4⟩
    · exact .inl ⟨by rw [h1], h2⟩
    · exact .inr ⟨j, by omega, by rw [h1], by omega, h3, h4⟩
  case round =>
    obtain ⟨hs5, hb⟩ := hrel
    have B4 := Lib.hid hb
    clear hb
    rcases hs5 with ⟨rfl, hcr⟩ | ⟨j, hj, rfl, hij, hjn, hcalm⟩
    · have HCR := Lib.hid hcr
      clear hcr
      go_wp2_with fail
      go_ret
      rw [HCR.out]
      exact ⟨rfl, B4.out⟩
    · have HJ := Lib.hid (And.intro hj (And.intro hij hjn))
      have HCA := Lib.hid hcalm
      have t1 : decide ((0 : Int) ≤ (j : Int)) = true := decide_eq_true (by omega)
      have hn9 : n ≤ 16000000 := hn2
      clear hj hij hjn hcalm
      go_wp2_with fail
      refine (HR.out j _ (HT.out.grown B4.out) (by have := HJ.out; omega)).mono ?_
      rintro e w5 ⟨he, hb⟩
      have B5 := Lib.hid (B4.out.trans (hb.mono B4.out.size))
      clear hb B4
      cases hat : atP l j with
      | none =>
        unfold ReadIs at he
        rw [hat] at he
        obtain rfl := he
        have HCJ := Lib.hid (HCA.out.step (fun p m h => by rw [hat] at h; cases h))
        clear hat
        have k2 : IntKind.i64.wrap ((j : Int) + 1) = (j : Int) + 1 := by rw [IntKind.wrap_i64]; have := HJ.out; omega
        have HST := Lib.hid (HS.out (j + 1) (by have := HJ.out; omega) HCJ.out)
        have al := ((Below.refl w5.heap.size w5).alloc (Nat.le_refl _) (.cells #[.int .i64 0, .int .i64 0, .int .i64 0, .string ⟨#[]⟩, .int .i64 0] 87))
        have B6 := Lib.hid (B5.out.trans (al.mono B5.out.size))
        clear al B5
        go_wp2_with fail
        refine (HF.out ((j : Int) + 1) _ (by have := HJ.out; unfold I64; omega)).mono ?_
        rintro e w7 ⟨rfl, hb⟩
        have B7 := Lib.hid (B6.out.trans (hb.mono B6.out.size))
        obtain ⟨z1, hz1⟩ : ∃ z1, z1 = findF l ((j : Int) + 1) := ⟨_, rfl⟩
        have H1 := Lib.hid (show (z1 = -1 ∧ corrupt l = false) ∨ ∃ j' : Nat, z1 = (j' : Int) ∧ j + 1 ≤ j' ∧ j' < n ∧ NoMore l i j' by rw [hz1]; exact HST.out)
        rw [← hz1]
        clear hb hz1 B6
        go_wp2_with fail
        rcases H1.out with ⟨h1, h2⟩ | ⟨j', h1, h2, h3, h4⟩
        · go_roundg 0
          case measure => have := HJ.out; omega
          case rel => exact ⟨.inl ⟨by rw [h1], h2⟩, B7.out⟩
        · go_roundg (n - j')
          case measure => have := HJ.out; omega
          case rel => exact ⟨.inr ⟨j', by omega, by rw [h1], by have := HJ.out; omega, h3, h4⟩, B7.out⟩
      | some q =>
        obtain ⟨p, m⟩ := q
        unfold ReadIs at he
        rw [hat] at he
        obtain rfl := he
        by_cases hpl : i < p.place
        · have HCR := Lib.hid (show corrupt l = true from corrupt_at HO.out (by
            rw [HEN.out]
            have h1 := HJ.out
            have h2 : j ≠ i := fun h => by rw [h, HA0.out] at hat; cases hat
            omega) hat (by rw [HEN.out]; exact hpl))
          have t2 : decide ((i : Int) < (p.place : Int)) = true := decide_eq_true (by omega)
          have t2' : decide (i < p.place) = true := decide_eq_true hpl
          have al := ((Below.refl w5.heap.size w5).alloc (Nat.le_refl _) (.cells #[.int .i64 (p.kind : Int), .int .i64 (p.gen : Int), .int .i64 (p.place : Int), .string (txt p.text), .int .i64 (m : Int)] 87))
          have B6 := Lib.hid (B5.out.trans (al.mono B5.out.size))
          clear al B5 hat hpl
          go_wp2_with fail
          go_ret
          rw [HCR.out]
          exact ⟨rfl, B6.out⟩
        · have t2 : decide ((i : Int) < (p.place : Int)) = false := decide_eq_false (by omega)
          have t2' : decide (i < p.place) = false := decide_eq_false hpl
          have HCJ := Lib.hid (HCA.out.step (fun p' m' h => by rw [hat] at h; obtain ⟨rfl, rfl⟩ := Prod.mk.inj (Option.some.inj h); omega))
          clear hat hpl
          have k2 : IntKind.i64.wrap ((j : Int) + 1) = (j : Int) + 1 := by rw [IntKind.wrap_i64]; have := HJ.out; omega
          have HST := Lib.hid (HS.out (j + 1) (by have := HJ.out; omega) HCJ.out)
          have al := ((Below.refl w5.heap.size w5).alloc (Nat.le_refl _) (.cells #[.int .i64 (p.kind : Int), .int .i64 (p.gen : Int), .int .i64 (p.place : Int), .string (txt p.text), .int .i64 (m : Int)] 87))
          have B6 := Lib.hid (B5.out.trans (al.mono B5.out.size))
          clear al B5
          go_wp2_with fail
          refine (HF.out ((j : Int) + 1) _ (by have := HJ.out; unfold I64; omega)).mono ?_
          rintro e w7 ⟨rfl, hb⟩
          have B7 := Lib.hid (B6.out.trans (hb.mono B6.out.size))
          obtain ⟨z1, hz1⟩ : ∃ z1, z1 = findF l ((j : Int) + 1) := ⟨_, rfl⟩
          have H1 := Lib.hid (show (z1 = -1 ∧ corrupt l = false) ∨ ∃ j' : Nat, z1 = (j' : Int) ∧ j + 1 ≤ j' ∧ j' < n ∧ NoMore l i j' by rw [hz1]; exact HST.out)
          rw [← hz1]
          clear hb hz1 B6
          go_wp2_with fail
          rcases H1.out with ⟨h1, h2⟩ | ⟨j', h1, h2, h3, h4⟩
          · go_roundg 0
            case measure => have := HJ.out; omega
            case rel => exact ⟨.inl ⟨by rw [h1], h2⟩, B7.out⟩
          · go_roundg (n - j')
            case measure => have := HJ.out; omega
            case rel => exact ⟨.inr ⟨j', by omega, by rw [h1], by have := HJ.out; omega, h3, h4⟩, B7.out⟩
end Go.Proofs.YtajkldmpllphjaaDoor
