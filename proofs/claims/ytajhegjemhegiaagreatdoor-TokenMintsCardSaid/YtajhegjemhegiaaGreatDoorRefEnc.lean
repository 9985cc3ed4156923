/-
  The contract of the document's own Enc of chapter 4: the letters, bit by bit; old memory is as it was. The condition: at most 5,000 bytes.
-/
import Derived.Test.YtajhegjemhegiaaGreatDoorPart25
import Derived.Test.YtajhegjemhegiaaGreatDoorPart08
import Derived.Test.YtajhegjemhegiaaGreatDoorPart13
namespace Go.Proofs.YtajhegjemhegiaaGreatDoor
open Go.RowKit TextNat

set_option maxRecDepth 100000 in
set_option maxHeartbeats 4000000 in
theorem refEnc (s : ByteArray) (w : World) (hs : s.size ≤ 5000) :
    Calls Tryz.prog 27 #[.string s] w fun e w' => e = .returned (.string (txt (TextMath.enc (nats s)))) ∧ Below w.heap.size w w' := by
  obtain ⟨ib, hib, hb0, hb1, hb2⟩ := info_parts info_byte
  obtain ⟨ii, hii, hi0, hi1, hi2⟩ := info_parts info_int
  obtain ⟨l, hl⟩ : ∃ l, l = nats s := ⟨_, rfl⟩
  have hll : l.length = s.size := by rw [hl]; exact nats_len s
  obtain ⟨B, hB⟩ : ∃ B, B = l.flatMap TextMath.bits8 := ⟨_, rfl⟩
  have hBl : B.length = 8 * s.size := by rw [hB, TextMath.flat_len TextMath.bits8_len, hll]
  have hBlt : ∀ b ∈ B, b < 2 := by rw [hB]; exact TextMath.flat_lt TextMath.bits8_lt l
  have hBat : ∀ i q z, q < 8 → l[i]? = some z → B[8 * i + q]? = some (z / 2 ^ (7 - q) % 2) := fun i q z hq hz => by
    rw [hB, TextMath.flat_at TextMath.bits8_len l i q hq, hz, Option.bind_some, TextMath.bits8_at z q hq]
  have HBAT := Lib.hid hBat
  have HBL := Lib.hid hBl
  have HBLT := Lib.hid hBlt
  have HL := Lib.hid hl
  have HLL := Lib.hid hll
  have HBD := Lib.hid hB
  have O1 := OwnsM.of (World.ownsRow_made (base := w.heap.size) (e := 3) (size := 1) w #[] 0 (Nat.le_refl _) (by simp) (by simp))
  have H1 := Lib.hid O1
  have HW1 := Lib.hid ((Below.refl w.heap.size w).alloc (Nat.le_refl _) (.cells #[] 3))
  rw [← hl]
  clear hl hll hB hBl hBlt hBat O1
  go_enter Tryz.func27, Tryz.ntmps27
  go_wp2_with fail
  go_loopg [3, 4] s.size (fun gh s3 s4 wx => ∃ i : Nat, i + gh = s.size ∧ s4 = .int .i64 (i : Int) ∧ OwnsM wx w.heap.size 3 s3 (8 * i) (natVals .i64 (B.take (8 * i))) ∧ Below w.heap.size w wx)
  case atStart => exact ⟨0, by omega, by go_num, H1.out, HW1.out⟩
  case round =>
    obtain ⟨i, hi, rfl, hown, hb⟩ := hrel
    clear H1 HW1
    by_cases hlt : i < s.size
    · have t1 : decide ((i : Int) < (s.size : Int)) = true := decide_eq_true (by omega)
      have t1' : decide (i < s.size) = true := decide_eq_true hlt
      obtain ⟨z, hz⟩ : ∃ z, z = (s[i]'hlt).toNat := ⟨_, rfl⟩
      have hx : ((s[i]'hlt).toNat : Int) = (z : Int) := by rw [hz]
      have hzl : z < 256 := by rw [hz]; exact UInt8.toNat_lt _
      have hzi : l[i]? = some z := by rw [hz, HL.out]; exact nats_at s i hlt
      have HZI := Lib.hid hzi
      have HO := Lib.hid hown
      have HB := Lib.hid hb
      clear hz hzi hown hb
      go_wp2_with fail
      go_loopg [3, 5] 8 (fun gh s3 s5 wx => ∃ q : Nat, q + gh = 8 ∧ s5 = .int .i64 (7 - (q : Int)) ∧ OwnsM wx w.heap.size 3 s3 (8 * i + q) (natVals .i64 (B.take (8 * i + q))) ∧ Below w.heap.size w wx)
      case atStart => exact ⟨0, rfl, by go_num, HO.out, HB.out⟩
      case round =>
        obtain ⟨q, hq, rfl, hown, hb⟩ := hrel
        clear HO HB
        obtain ⟨p3, c3, rfl⟩ := hown.shape
        by_cases h8 : q < 8
        · obtain ⟨sh, hsh⟩ : ∃ sh, sh = 7 - q := ⟨_, rfl⟩
          have es : (7 : Int) - (q : Int) = (sh : Int) := by omega
          obtain ⟨b, hbd⟩ : ∃ b, b = z / 2 ^ sh % 2 := ⟨_, rfl⟩
          have hbat : B[8 * i + q]? = some b := by rw [hbd, hsh]; exact HBAT.out i q z h8 HZI.out
          have HT := Lib.hid (show natVals .i64 (B.take (8 * i + q)) ++ [.int .i64 (b : Int)] = natVals .i64 (B.take (8 * i + q + 1)) by
            rw [TextMath.take_step hbat, natVals_append]
            rfl)
          have k1 : IntKind.u64.wrap (sh : Int) = (sh : Int) := by rw [IntKind.wrap_u64]; omega
          have k2 : IntKind.i64.wrap ((z : Int) / 2 ^ sh) = (z : Int) / 2 ^ sh := by
            have h1 : z / 2 ^ sh ≤ z := Nat.div_le_self _ _
            have h2 : (z : Int) / 2 ^ sh = ((z / 2 ^ sh : Nat) : Int) := by rw [Int.natCast_ediv, Int.natCast_pow]; rfl
            rw [h2, IntKind.wrap_i64]
            generalize z / 2 ^ sh = y at h1 ⊢
            omega
          have k3 : ((z : Int) / 2 ^ sh).tmod 2 = (b : Int) := by
            have h2 : (z : Int) / 2 ^ sh = ((z / 2 ^ sh : Nat) : Int) := by rw [Int.natCast_ediv, Int.natCast_pow]; rfl
            rw [h2, Int.tmod_eq_emod_of_nonneg (Int.natCast_nonneg _), hbd, Int.natCast_emod]
            rfl
          have hsh8 : sh < 8 := by omega
          have HO := Lib.hid (hown.alloc (.cells #[.int .i64 (b : Int)] 3))
          have hs2 := hb.size
          have HB := Lib.hid (hb.alloc hb.size (.cells #[.int .i64 (b : Int)] 3))
          have es4 : (sh : Int) = 7 - (q : Int) := by omega
          have ES := Lib.hid es4
          rw [es]
          clear hown hb hsh hbd hbat es es4
          go_wp2_with ((at_builtin; refine wpList_append_m rfl _ _ 22 rfl w.heap.size 3 ii (.int .i64 0) 8 Tryz.underlying22 hii hi0 hi1 hi2 rfl _ _ _ rfl HO.out ⟨_, 0, none⟩ 1 1 [.int .i64 (b : Int)] rfl rfl (one_put _ _ _ _ (by simp)) (fun u hu => by simp at hu; subst hu; rfl) (by unfold maxLen; omega) (by omega) (by simp; omega) ?_; intro v2 w2 hown2 hgrow2))
          have hB2 : Below w.heap.size w w2 := HB.out.grown hgrow2 (by simp; omega) (fun q hq => (HO.out.lt q hq).1)
          rw [HT.out] at hown2
          have es4 := ES.out
          go_roundg (8 - (q + 1))
          case measure => omega
          case rel => exact ⟨q + 1, by omega, congrArg (Value.int .i64) (by omega), hown2, hB2⟩
        · obtain rfl : q = 8 := by omega
          rw [show 8 * i + 8 = 8 * (i + 1) by omega] at hown
          have HO := Lib.hid hown
          have HB := Lib.hid hb
          clear hown hb
          go_wp2_with fail
          go_roundg (s.size - (i + 1))
          case measure => omega
          case rel => exact ⟨i + 1, by omega, by go_num, HO.out, HB.out⟩
    · obtain rfl : i = s.size := by omega
      have t1 : decide (s.size < s.size) = false := decide_eq_false (by omega)
      rw [List.take_of_length_le (by rw [HBL.out]; exact Nat.le_refl _)] at hown
      obtain ⟨N, hN⟩ : ∃ N, N = 8 * s.size := ⟨_, rfl⟩
      rw [← hN] at hown
      have hNl : N ≤ 40000 := by omega
      have HO := Lib.hid hown
      have HB := Lib.hid hb
      obtain ⟨tot, htot⟩ : ∃ tot, tot = (6 - N % 6) % 6 := ⟨_, rfl⟩
      have HTOT := Lib.hid htot
      have htl : tot < 6 := by omega
      have HNN := Lib.hid hN
      clear hown hb hN
      go_wp2_with fail
      go_loopg [3] tot (fun gh s3 wx => ∃ r : Nat, r + gh = tot ∧ OwnsM wx w.heap.size 3 s3 (N + r) (natVals .i64 (B ++ List.replicate r 0)) ∧ Below w.heap.size w wx)
      case atStart => exact ⟨0, by omega, by rw [List.replicate_zero, List.append_nil]; exact HO.out, HB.out⟩
      case round =>
        obtain ⟨r, hr, hown, hb⟩ := hrel
        clear HO HB
        obtain ⟨p3, c3, rfl⟩ := hown.shape
        by_cases hrt : r < tot
        · have t3 : (((N : Int) + (r : Int)) % 6 != 0) = true := by
            simp only [bne_iff_ne]
            omega
          have HT := Lib.hid (show natVals .i64 (B ++ List.replicate r 0) ++ [.int .i64 0] = natVals .i64 (B ++ List.replicate (r + 1) 0) by
            rw [List.replicate_succ', ← List.append_assoc, natVals_append _ (B ++ _)]
            rfl)
          have HO := Lib.hid (hown.alloc (.cells #[.int .i64 0] 3))
          have hs2 := hb.size
          have HB := Lib.hid (hb.alloc hb.size (.cells #[.int .i64 0] 3))
          clear hown hb htot
          go_wp2_with ((at_builtin; refine wpList_append_m rfl _ _ 22 rfl w.heap.size 3 ii (.int .i64 0) 8 Tryz.underlying22 hii hi0 hi1 hi2 rfl _ _ _ rfl HO.out ⟨_, 0, none⟩ 1 1 [.int .i64 0] rfl rfl (one_put _ _ _ _ (by simp)) (fun u hu => by simp at hu; subst hu; rfl) (by unfold maxLen; omega) (by omega) (by simp; omega) ?_; intro v2 w2 hown2 hgrow2))
          have hB2 : Below w.heap.size w w2 := HB.out.grown hgrow2 (by simp; omega) (fun q hq => (HO.out.lt q hq).1)
          rw [HT.out] at hown2
          have htot2 := HTOT.out
          go_roundg (tot - (r + 1))
          case measure => omega
          case rel => exact ⟨r + 1, by omega, hown2, hB2⟩
        · obtain rfl : r = tot := by omega
          have t3 : (((N : Int) + (r : Int)) % 6 != 0) = false := by
            simp only [bne_eq_false_iff_eq]
            omega
          obtain ⟨M, hM⟩ : ∃ M, M = B ++ List.replicate r 0 := ⟨_, rfl⟩
          have hMl : M.length = N + r := by rw [hM, List.length_append, HBL.out, List.length_replicate, HNN.out]
          have hMp : M = TextMath.padTo6 (l.flatMap TextMath.bits8) := by
            rw [hM]
            unfold TextMath.padTo6
            rw [← HBD.out, HBL.out, ← HNN.out, ← htot]
          have hMlt : ∀ b ∈ M, b < 2 := by rw [hMp]; exact TextMath.padTo6_lt (TextMath.flat_lt TextMath.bits8_lt l)
          rw [← hM] at hown
          have hcell : ∀ t z : Nat, M[t]? = some z → ∃ G, p3 = some ⟨G, 0, none⟩ ∧ wr.cell? ⟨G, t, none⟩ = some (.int .i64 (z : Int)) := fun t z htz => by
            have htl2 := (List.getElem?_eq_some_iff.1 htz).1
            obtain ⟨G, c, he, _, _, _, _, hc, _⟩ := hown.open (by omega)
            simp only [Value.slice.injEq] at he
            refine ⟨G, he.1, ?_⟩
            rw [hc t (by omega), natVals_at, htz]
            rfl
          obtain ⟨J, hJ⟩ : ∃ J, N + r = 6 * J := ⟨(N + r) / 6, by omega⟩
          obtain ⟨E, hE⟩ : ∃ E, E = TextMath.enc l := ⟨_, rfl⟩
          have hEl : E.length = J := by rw [hE, TextMath.enc_len, ← hMp, hMl, hJ]; omega
          have hElt : ∀ b ∈ E, b < 256 := by rw [hE]; exact TextMath.enc_lt l
          have hEat : ∀ j, j < J → E[j]? = some (TextMath.letter (TextMath.num (TextMath.group M 6 j))) := fun j hj => by
            rw [hE, TextMath.enc_at l j (by rw [← hMp, hMl]; omega), ← hMp]
          have HCELL := Lib.hid hcell
          have HML := Lib.hid hMl
          have HMLT := Lib.hid hMlt
          have HEL := Lib.hid hEl
          have HELT := Lib.hid hElt
          have HEAT := Lib.hid hEat
          have HJ := Lib.hid hJ
          have HB := Lib.hid hb
          have O1 := OwnsM.of (World.ownsRow_made (base := wr.heap.size) (e := 5) (size := 1) wr #[] 0 (Nat.le_refl _) (by simp) (by simp))
          have H1 := Lib.hid O1
          have HW1 := Lib.hid ((Below.refl wr.heap.size wr).alloc (Nat.le_refl _) (.cells #[] 5))
          have hJl : J ≤ 8000 := by omega
          have HED := Lib.hid hE
          clear hown hb htot hM hMl hMp hMlt hcell hJ hE hEl hElt hEat O1
          obtain ⟨Wb, hWb⟩ : ∃ Wb, Wb = wr := ⟨_, rfl⟩
          subst hWb
          go_wp2_with fail
          go_loopg [6, 7] J (fun gh s6 s7 wx => ∃ j : Nat, j + gh = J ∧ s7 = .int .i64 (6 * (j : Int)) ∧ (∃ g c : Nat, s6 = .slice (some ⟨g, 0, none⟩) j c) ∧ OwnsM wx Wb.heap.size 5 s6 j (natVals .u8 (E.take j)) ∧ Below Wb.heap.size Wb wx)
          case atStart => exact ⟨0, by omega, by go_num, ⟨_, _, rfl⟩, H1.out, HW1.out⟩
          case round =>
            obtain ⟨j, hj, rfl, ⟨g6, c6, rfl⟩, hown, hb⟩ := hrel
            clear H1 HW1
            by_cases hjJ : j < J
            · have t4 : decide (6 * (j : Int) < (N : Int) + (r : Int)) = true := decide_eq_true (by have := HJ.out; omega)
              have HO := Lib.hid hown
              have HBj := Lib.hid hb
              clear hown hb
              obtain ⟨w7, hw7⟩ : ∃ w7, w7 = wr := ⟨_, rfl⟩
              subst hw7
              go_wp2_with fail
              have HG := Lib.hid (show (TextMath.group M 6 j).length = 6 from TextMath.group_len M 6 j (by rw [HML.out]; have := HJ.out; omega))
              have HGL := Lib.hid (TextMath.group_lt HMLT.out 6 j)
              go_loopg [8, 9] 6 (fun gh s8 s9 wx => ∃ q x : Nat, q + gh = 6 ∧ s9 = .int .i64 (q : Int) ∧ s8 = .int .i64 (x : Int) ∧ Hid (x = TextMath.num ((TextMath.group M 6 j).take q)) ∧ x < 64 ∧ wx = w7)
              case atStart => exact ⟨0, 0, rfl, by go_num, rfl, Lib.hid rfl, by decide, rfl⟩
              case round =>
                obtain ⟨q, x, hq, rfl, rfl, hx, hx64, rfl⟩ := hrel
                by_cases h6 : q < 6
                · have t5 : decide ((q : Int) < 6) = true := decide_eq_true (by omega)
                  have t5' : decide (q < 6) = true := decide_eq_true h6
                  have hlt : 6 * j + q < M.length := by rw [HML.out]; have := HJ.out; omega
                  obtain ⟨z, hz⟩ : ∃ z, M[6 * j + q]? = some z := ⟨_, List.getElem?_eq_getElem hlt⟩
                  obtain ⟨G, rfl, c0⟩ := HCELL.out _ z hz
                  have c1 := (HBj.out.cell (p := ⟨G, 6 * j + q, none⟩) (World.block_lt_of_cell? Wb _ c0)).trans c0
                  have hz2 := HMLT.out z (List.mem_of_getElem? hz)
                  have hgz : (TextMath.group M 6 j)[q]? = some z := by rw [TextMath.group_at M 6 j q h6, hz]
                  have hN2 : x * 2 + z = TextMath.num ((TextMath.group M 6 j).take (q + 1)) := by
                    rw [TextMath.take_step hgz, TextMath.num_snoc, ← hx.out]
                  have hN64 : x * 2 + z < 64 := by
                    rw [hN2]
                    have h1 := TextMath.num_lt (l := (TextMath.group M 6 j).take (q + 1)) (fun b hb => HGL.out b (List.mem_of_mem_take hb))
                    have h2 : ((TextMath.group M 6 j).take (q + 1)).length ≤ 6 := by rw [List.length_take, HG.out]; omega
                    have h3 : 2 ^ ((TextMath.group M 6 j).take (q + 1)).length ≤ 2 ^ 6 := Nat.pow_le_pow_right (by decide) h2
                    omega
                  have HN := Lib.hid hN2
                  have k1 : 0 ≤ 6 * (j : Int) + (q : Int) := by omega
                  have k2 : 6 * (j : Int) + (q : Int) < (N : Int) + (r : Int) := by have := HJ.out; omega
                  have k2' : 6 * (j : Int) + (q : Int) < ((N + r : Nat) : Int) := by have := HJ.out; omega
                  have k3 : (6 * (j : Int) + (q : Int)).toNat = 6 * j + q := by omega
                  have k4 : IntKind.i64.wrap (6 * (j : Int) + (q : Int)) = 6 * (j : Int) + (q : Int) := by have := HJ.out; rw [IntKind.wrap_i64]; omega
                  clear hx hz c0 hgz hN2 hlt
                  go_wp2_with fail
                  go_roundg (6 - (q + 1))
                  case measure => omega
                  case rel => exact ⟨q + 1, x * 2 + z, by omega, by go_num, by go_num, HN, hN64, rfl⟩
                · obtain rfl : q = 6 := by omega
                  obtain ⟨z, hz⟩ : ∃ z, z = TextMath.letter x := ⟨_, rfl⟩
                  have hEj : E[j]? = some z := by
                    rw [HEAT.out j hjJ, hz, hx.out, List.take_of_length_le (by rw [HG.out]; exact Nat.le_refl _)]
                  have HR := Lib.hid (refLetter x wr hx64)
                  rw [← hz] at HR
                  have HT := Lib.hid (show natVals .u8 (E.take j) ++ [.int .u8 (z : Int)] = natVals .u8 (E.take (j + 1)) by
                    rw [TextMath.take_step hEj, natVals_append]
                    rfl)
                  have HO2 := Lib.hid (HO.out.alloc (.cells #[.int .u8 (z : Int)] 5))
                  have hs2 := HBj.out.size
                  have HB2 := Lib.hid (HBj.out.alloc hs2 (.cells #[.int .u8 (z : Int)] 5))
                  clear hz hEj hx HO
                  go_wp2_with (first
                    | (go_at_call 49; refine HR.out.mono ?_; rintro e w8 ⟨rfl, rfl⟩)
                    | (at_builtin; refine wpList_append_m rfl _ _ 99 rfl Wb.heap.size 5 ib (.int .u8 0) 1 Tryz.underlying99 hib hb0 hb1 hb2 rfl _ _ _ rfl HO2.out ⟨_, 0, none⟩ 1 1 [.int .u8 (z : Int)] rfl rfl (one_put _ _ _ _ (by simp)) (fun u hu => by simp at hu; subst hu; rfl) (by unfold maxLen; omega) (by omega) (by simp; omega) ?_; intro v2 w2 hown2 hgrow2))
                  have hB2 : Below Wb.heap.size Wb w2 := HB2.out.grown hgrow2 (by simp; omega) (fun q hq => (HO2.out.lt q hq).1)
                  rw [HT.out] at hown2
                  obtain ⟨g9, c9, he9, _⟩ := hown2.open (by omega)
                  go_roundg (J - (j + 1))
                  case measure => omega
                  case rel => exact ⟨j + 1, by omega, congrArg (Value.int .i64) (by omega), ⟨g9, c9, he9⟩, hown2, hB2⟩
            · obtain rfl : j = J := by omega
              have t4 : decide (6 * (j : Int) < (N : Int) + (r : Int)) = false := decide_eq_false (by have := HJ.out; omega)
              rw [List.take_of_length_le (by rw [HEL.out]; exact Nat.le_refl _)] at hown
              have hcv := text_row wr g6 c6 E HELT.out (fun i hi => by
                obtain ⟨g, c, he, _, _, _, _, hc, _⟩ := hown.open (by rw [HEL.out] at hi; omega)
                simp only [Value.slice.injEq, Option.some.injEq, Addr.mk.injEq] at he
                rw [he.1.1]
                exact hc i (by rw [HEL.out] at hi; omega))
              rw [HEL.out] at hcv
              have HBf := Lib.hid (HB.out.trans (hb.mono HB.out.size))
              clear hown hb
              go_wp2
              go_ret
              exact ⟨by rw [← HED.out]; rfl, HBf.out⟩
end Go.Proofs.YtajhegjemhegiaaGreatDoor
