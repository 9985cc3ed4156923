/-
  Texts of one claim, merged.
  RefNumber: The contract of the document's own number of chapter 4. No conditions but those typed.
  RefDec: The contract of the document's own Dec of chapter 4: the bytes, or the place that can't be; old memory is as it was. The condition: at most 10,000 bytes.
  RefIn: The contracts of the document's own reader of chapter 5: Num, Text, Flag, Vec, Fault. The conditions: the reader stands where it is said; texts of at most 200,000 bytes.
-/
import Derived.Test.YtajhegjemhegiaaGreatDoorPart25
import Derived.Test.YtajhegjemhegiaaGreatDoorPart09
import Derived.Test.YtajhegjemhegiaaGreatDoorPart13
import Derived.Test.YtajhegjemhegiaaGreatDoorPart10
import Derived.Test.YtajhegjemhegiaaGreatDoorPart05
namespace Go.Proofs.YtajhegjemhegiaaGreatDoor
open Go.RowKit TextNat

/-- A letter's number, -1 for what is none, as the machine has it. -/
def numI (c : Nat) : Int := if TextMath.number c < 64 then (TextMath.number c : Int) else -1

set_option maxHeartbeats 2000000 in
theorem refNumber4 (c : Nat) (w : World) : Calls Tryz.prog 56 #[.int .u8 (c : Int)] w fun e w' => e = .returned (.int .i64 (numI c)) ∧ w' = w := by
  have HL := Lib.hid (fun n w h => refLetter n w h)
  go_enter Tryz.func56, Tryz.ntmps56
  go_wp2
  go_loopg [3] 64 (fun gh s3 wx => ∃ i : Nat, i + gh = 64 ∧ s3 = .int .i64 (i : Int) ∧ Hid (∀ j, j < i → TextMath.letter j ≠ c) ∧ wx = w)
  case atStart => exact ⟨0, rfl, by go_num, Lib.hid (fun j hj => absurd hj (by omega)), rfl⟩
  case round =>
    obtain ⟨i, hi, rfl, hn, rfl⟩ := hrel
    by_cases h64 : i < 64
    · have t1 : decide ((i : Int) < 64) = true := decide_eq_true (by omega)
      have t1' : decide (i < 64) = true := decide_eq_true h64
      by_cases hc2 : TextMath.letter i = c
      · have HI := Lib.hid (show numI c = (i : Int) by unfold numI; rw [TextMath.number_of h64 hc2, if_pos h64])
        have HR := Lib.hid (HL.out i wr h64)
        rw [hc2] at HR
        clear hn hc2
        go_wp2_with (go_at_call 49; refine HR.out.mono ?_; rintro e w2 ⟨rfl, rfl⟩)
        go_ret
        exact ⟨by rw [HI.out]; rfl, rfl⟩
      · obtain ⟨z, hz⟩ : ∃ z, z = TextMath.letter i := ⟨_, rfl⟩
        have HR := Lib.hid (HL.out i wr h64)
        rw [← hz] at HR hc2
        have t2 : ((z : Int) == (c : Int)) = false := by
          simp only [beq_eq_false_iff_ne]
          omega
        have t3 : (z == c) = false := by simpa using hc2
        have HN := Lib.hid (show ∀ j, j < i + 1 → TextMath.letter j ≠ c from fun j hj => by
          by_cases hji : j = i
          · rw [hji, ← hz]; exact hc2
          · exact hn.out j (by omega))
        clear hn hz hc2
        go_wp2_with (go_at_call 49; refine HR.out.mono ?_; rintro e w2 ⟨rfl, rfl⟩)
        go_roundg (64 - (i + 1))
        case measure => omega
        case rel => exact ⟨i + 1, by omega, by go_num, HN, rfl⟩
    · obtain rfl : i = 64 := by omega
      have HI := Lib.hid (show numI c = -1 by unfold numI; rw [TextMath.number_none hn.out, if_neg (by decide)])
      clear hn
      go_wp2
      go_ret
      exact ⟨by rw [HI.out]; rfl, rfl⟩
end Go.Proofs.YtajhegjemhegiaaGreatDoor
namespace Go.Proofs.YtajhegjemhegiaaGreatDoor
open Go.RowKit TextNat

/-- What Dec answers. -/
def decValue (l : List Nat) : Value := match TextMath.fault l with
  | some i => .tuple #[.string ⟨#[]⟩, .int .i64 (i : Int)]
  | none => .tuple #[.string (txt (TextMath.decBytes l)), .int .i64 (-1)]

set_option maxRecDepth 100000 in
set_option maxHeartbeats 8000000 in
theorem refDec (s : ByteArray) (w : World) (hs : s.size ≤ 10000) :
    Calls Tryz.prog 32 #[.string s] w fun e w' => e = .returned (decValue (nats s)) ∧ Below w.heap.size w w' := by
  obtain ⟨ib, hib, hb0, hb1, hb2⟩ := info_parts info_byte
  obtain ⟨ii, hii, hi0, hi1, hi2⟩ := info_parts info_int
  obtain ⟨l, hl⟩ : ∃ l, l = nats s := ⟨_, rfl⟩
  have hll : l.length = s.size := by rw [hl]; exact nats_len s
  have HL := Lib.hid hl
  have HLL := Lib.hid hll
  obtain ⟨V, hV⟩ : ∃ V, V = decValue l := ⟨_, rfl⟩
  have HV := Lib.hid hV
  rw [← hl, ← hV]
  clear hl hll hV
  go_enter Tryz.func32, Tryz.ntmps32
  go_wp2_with fail
  go_loopg [4] s.size (fun gh s4 wx => ∃ i : Nat, i + gh = s.size ∧ s4 = .int .i64 (i : Int) ∧ Hid (∀ j y : Nat, j < i → l[j]? = some y → TextMath.number y < 64) ∧ wx = w)
  case atStart => exact ⟨0, by omega, by go_num, Lib.hid (fun j y hj => absurd hj (by omega)), rfl⟩
  case round =>
    obtain ⟨i, hi, rfl, hn, rfl⟩ := hrel
    by_cases hlt : i < s.size
    · have t1 : decide ((i : Int) < (s.size : Int)) = true := decide_eq_true (by omega)
      have t1' : decide (i < s.size) = true := decide_eq_true hlt
      obtain ⟨z, hz⟩ : ∃ z, z = (s[i]'hlt).toNat := ⟨_, rfl⟩
      have hx : ((s[i]'hlt).toNat : Int) = (z : Int) := by rw [hz]
      have hzl : z < 256 := by rw [hz]; exact UInt8.toNat_lt _
      have hzi : l[i]? = some z := by rw [hz, HL.out]; exact nats_at s i hlt
      have HR := Lib.hid (refNumber4 z wr)
      by_cases h64 : TextMath.number z < 64
      · obtain ⟨n, hnd⟩ : ∃ n, n = TextMath.number z := ⟨_, rfl⟩
        have hnI : numI z = (n : Int) := by unfold numI; rw [if_pos h64, hnd]
        rw [hnI] at HR
        have t2 : decide ((n : Int) < 0) = false := decide_eq_false (by omega)
        have HN := Lib.hid (show ∀ j y : Nat, j < i + 1 → l[j]? = some y → TextMath.number y < 64 from fun j y hj hy => by
          by_cases hji : j = i
          · rw [hji, hzi] at hy
            rw [← Option.some.inj hy]; exact h64
          · exact hn.out j y (by omega) hy)
        clear hn hz hzi hnd hnI h64
        go_wp2_with (go_at_call 56; refine HR.out.mono ?_; rintro e w2 ⟨rfl, rfl⟩)
        go_roundg (s.size - (i + 1))
        case measure => omega
        case rel => exact ⟨i + 1, by omega, by go_num, HN, rfl⟩
      · have h64' : TextMath.number z = 64 := by have := TextMath.number_le z; omega
        have hnI : numI z = -1 := by unfold numI; rw [if_neg h64]
        rw [hnI] at HR
        have HF := Lib.hid (TextMath.fault_letter hzi h64' hn.out)
        clear hn hz hzi hnI h64 h64'
        go_wp2_with (go_at_call 56; refine HR.out.mono ?_; rintro e w2 ⟨rfl, rfl⟩)
        go_ret2
        exact ⟨by rw [HV.out]; unfold decValue; rw [HF.out]; rfl, Below.refl _ _⟩
    · obtain rfl : i = s.size := by omega
      have t1 : decide (s.size < s.size) = false := decide_eq_false (by omega)
      have hgood : ∀ j y : Nat, l[j]? = some y → TextMath.number y < 64 := fun j y hy => hn.out j y (by have := (List.getElem?_eq_some_iff.1 hy).1; rw [HLL.out] at this; exact this) hy
      have HGOOD := Lib.hid hgood
      clear hn hgood
      by_cases h41 : s.size % 4 = 1
      · have t2 : ((s.size : Int) % 4 == 1) = true := by simp only [beq_iff_eq]; omega
        have HF := Lib.hid (TextMath.fault_count HGOOD.out (by rw [HLL.out]; exact h41))
        rw [HLL.out] at HF
        go_wp2_with fail
        go_ret2
        exact ⟨by rw [HV.out]; unfold decValue; rw [HF.out]; rfl, Below.refl _ _⟩
      · have t2 : ((s.size : Int) % 4 == 1) = false := by simp only [beq_eq_false_iff_ne]; omega
        obtain ⟨B, hB⟩ : ∃ B, B = TextMath.decBits l := ⟨_, rfl⟩
        have HBD := Lib.hid hB
        have HBL := Lib.hid (show B.length = 6 * s.size by rw [hB, TextMath.decBits_len, HLL.out])
        have HBLT := Lib.hid (show ∀ b ∈ B, b < 2 by rw [hB]; exact TextMath.decBits_lt l)
        have HBAT := Lib.hid (show ∀ i q z : Nat, q < 6 → l[i]? = some z → B[6 * i + q]? = some (TextMath.number z / 2 ^ (5 - q) % 2) from fun i q z hq hz => by rw [hB]; exact TextMath.decBits_at l i q z hq hz)
        have O1 := OwnsM.of (World.ownsRow_made (base := wr.heap.size) (e := 3) (size := 1) wr #[] 0 (Nat.le_refl _) (by simp) (by simp))
        have H1 := Lib.hid O1
        have HW1 := Lib.hid ((Below.refl wr.heap.size wr).alloc (Nat.le_refl _) (.cells #[] 3))
        obtain ⟨W0, hW0⟩ : ∃ W0, W0 = wr := ⟨_, rfl⟩
        subst hW0
        have H41 := Lib.hid h41
        clear hB O1 h41
        go_wp2_with fail
        go_loopg [5, 6] s.size (fun gh s5 s6 wx => ∃ i : Nat, i + gh = s.size ∧ s6 = .int .i64 (i : Int) ∧ OwnsM wx W0.heap.size 3 s5 (6 * i) (natVals .i64 (B.take (6 * i))) ∧ Below W0.heap.size W0 wx)
        case atStart => exact ⟨0, by omega, by go_num, H1.out, HW1.out⟩
        case round =>
          obtain ⟨i, hi, rfl, hown, hb⟩ := hrel
          clear H1 HW1 t1
          by_cases hlt : i < s.size
          · have t1 : decide ((i : Int) < (s.size : Int)) = true := decide_eq_true (by omega)
            have t1' : decide (i < s.size) = true := decide_eq_true hlt
            obtain ⟨z, hz⟩ : ∃ z, z = (s[i]'hlt).toNat := ⟨_, rfl⟩
            have hx : ((s[i]'hlt).toNat : Int) = (z : Int) := by rw [hz]
            have hzl : z < 256 := by rw [hz]; exact UInt8.toNat_lt _
            have hzi : l[i]? = some z := by rw [hz, HL.out]; exact nats_at s i hlt
            have h64 := HGOOD.out i z hzi
            obtain ⟨n, hnd⟩ : ∃ n, n = TextMath.number z := ⟨_, rfl⟩
            have hnI : numI z = (n : Int) := by unfold numI; rw [if_pos h64, hnd]
            have HR := Lib.hid (refNumber4 z wr)
            rw [hnI] at HR
            have hn64 : n < 64 := by rw [hnd]; exact h64
            have HBN := Lib.hid (show ∀ q : Nat, q < 6 → B[6 * i + q]? = some (n / 2 ^ (5 - q) % 2) from fun q hq => by rw [hnd]; exact HBAT.out i q z hq hzi)
            have HO := Lib.hid hown
            have HB := Lib.hid hb
            clear hz hzi hown hb hnI hnd h64
            go_wp2_with (go_at_call 56; refine HR.out.mono ?_; rintro e w2 ⟨rfl, rfl⟩)
            go_loopg [5, 8] 6 (fun gh s5 s8 wx => ∃ q : Nat, q + gh = 6 ∧ s8 = .int .i64 (5 - (q : Int)) ∧ OwnsM wx W0.heap.size 3 s5 (6 * i + q) (natVals .i64 (B.take (6 * i + q))) ∧ Below W0.heap.size W0 wx)
            case atStart => exact ⟨0, rfl, by go_num, HO.out, HB.out⟩
            case round =>
              obtain ⟨q, hq, rfl, hown, hb⟩ := hrel
              clear HO HB
              obtain ⟨p3, c3, rfl⟩ := hown.shape
              by_cases h6 : q < 6
              · obtain ⟨sh, hsh⟩ : ∃ sh, sh = 5 - q := ⟨_, rfl⟩
                have es : (5 : Int) - (q : Int) = (sh : Int) := by omega
                obtain ⟨b, hbd⟩ : ∃ b, b = n / 2 ^ sh % 2 := ⟨_, rfl⟩
                have hbat : B[6 * i + q]? = some b := by rw [hbd, hsh]; exact HBN.out q h6
                have HT := Lib.hid (show natVals .i64 (B.take (6 * i + q)) ++ [.int .i64 (b : Int)] = natVals .i64 (B.take (6 * i + q + 1)) by
                  rw [TextMath.take_step hbat, natVals_append]
                  rfl)
                have k1 : IntKind.u64.wrap (sh : Int) = (sh : Int) := by rw [IntKind.wrap_u64]; omega
                have k3 : ((n : Int) / 2 ^ sh).tmod 2 = (b : Int) := by
                  have h2 : (n : Int) / 2 ^ sh = ((n / 2 ^ sh : Nat) : Int) := by rw [Int.natCast_ediv, Int.natCast_pow]; rfl
                  rw [h2, Int.tmod_eq_emod_of_nonneg (Int.natCast_nonneg _), hbd, Int.natCast_emod]
                  rfl
                have hsh8 : sh < 8 := by omega
                have HO := Lib.hid (hown.alloc (.cells #[.int .i64 (b : Int)] 3))
                have hs2 := hb.size
                have HB := Lib.hid (hb.alloc hb.size (.cells #[.int .i64 (b : Int)] 3))
                have es4 : (sh : Int) = 5 - (q : Int) := by omega
                have ES := Lib.hid es4
                rw [es]
                clear hown hb hsh hbd hbat es es4
                go_wp2_with ((at_builtin; refine wpList_append_m rfl _ _ 22 rfl W0.heap.size 3 ii (.int .i64 0) 8 Tryz.underlying22 hii hi0 hi1 hi2 rfl _ _ _ rfl HO.out ⟨_, 0, none⟩ 1 1 [.int .i64 (b : Int)] rfl rfl (one_put _ _ _ _ (by simp)) (fun u hu => by simp at hu; subst hu; rfl) (by unfold maxLen; omega) (by omega) (by simp; omega) ?_; intro v2 w2 hown2 hgrow2))
                have hB2 : Below W0.heap.size W0 w2 := HB.out.grown hgrow2 (by simp; omega) (fun q hq => (HO.out.lt q hq).1)
                rw [HT.out] at hown2
                have es4 := ES.out
                go_roundg (6 - (q + 1))
                case measure => omega
                case rel => exact ⟨q + 1, by omega, congrArg (Value.int .i64) (by omega), hown2, hB2⟩
              · obtain rfl : q = 6 := by omega
                rw [show 6 * i + 6 = 6 * (i + 1) by omega] at hown
                have HO := Lib.hid hown
                have HB := Lib.hid hb
                clear hown hb
                go_wp2_with fail
                go_roundg (s.size - (i + 1))
                case measure => omega
                case rel => exact ⟨i + 1, by omega, by go_num, HO.out, HB.out⟩
          · obtain rfl : i = s.size := by omega
            have t1 : decide (s.size < s.size) = false := decide_eq_false (by omega)
            rw [List.take_of_length_le (by rw [HBL.out]; exact Nat.le_refl _)] at hown
            obtain ⟨p3, c3, rfl⟩ := hown.shape
            obtain ⟨N, hN⟩ : ∃ N, N = 6 * s.size := ⟨_, rfl⟩
            rw [← hN] at hown ⊢
            have hcell : ∀ t z : Nat, B[t]? = some z → ∃ G, p3 = some ⟨G, 0, none⟩ ∧ wr.cell? ⟨G, t, none⟩ = some (.int .i64 (z : Int)) := fun t z htz => by
              have htl2 := (List.getElem?_eq_some_iff.1 htz).1
              rw [HBL.out, ← hN] at htl2
              obtain ⟨G, c, he, _, _, _, _, hc, _⟩ := hown.open (by omega)
              simp only [Value.slice.injEq] at he
              refine ⟨G, he.1, ?_⟩
              rw [hc t (by omega), natVals_at, htz]
              rfl
            obtain ⟨J, hJ⟩ : ∃ J, J = N / 8 := ⟨_, rfl⟩
            obtain ⟨E, hE⟩ : ∃ E, E = TextMath.decBytes l := ⟨_, rfl⟩
            have hEl : E.length = J := by rw [hE, TextMath.decBytes_len, HLL.out, ← hN, hJ]
            have hElt : ∀ b ∈ E, b < 256 := by rw [hE]; exact TextMath.decBytes_lt l
            have hEat : ∀ j, j < J → E[j]? = some (TextMath.num (TextMath.group B 8 j)) := fun j hj => by
              rw [hE, TextMath.decBytes_at l j (by rw [HLL.out, ← hN, ← hJ]; exact hj), ← HBD.out]
            have HCELL := Lib.hid hcell
            have HEL := Lib.hid hEl
            have HELT := Lib.hid hElt
            have HEAT := Lib.hid hEat
            have HJ := Lib.hid hJ
            have HN6 := Lib.hid hN
            have HED := Lib.hid hE
            have HBN2 := Lib.hid (show B.length = N by rw [HBL.out, hN])
            have HB := Lib.hid hb
            have O1 := OwnsM.of (World.ownsRow_made (base := wr.heap.size) (e := 5) (size := 1) wr #[] 0 (Nat.le_refl _) (by simp) (by simp))
            have H1 := Lib.hid O1
            have HW1 := Lib.hid ((Below.refl wr.heap.size wr).alloc (Nat.le_refl _) (.cells #[] 5))
            have hNl : N ≤ 60000 := by omega
            have hJl : J ≤ 8000 := by omega
            clear hown hb hcell hJ hE hEl hElt hEat O1 hN
            obtain ⟨Wb, hWb⟩ : ∃ Wb, Wb = wr := ⟨_, rfl⟩
            subst hWb
            go_wp2_with fail
            go_loopg [9, 10] J (fun gh s9 s10 wx => ∃ j : Nat, j + gh = J ∧ s10 = .int .i64 (8 * (j : Int)) ∧ (∃ g c : Nat, s9 = .slice (some ⟨g, 0, none⟩) j c) ∧ OwnsM wx Wb.heap.size 5 s9 j (natVals .u8 (E.take j)) ∧ Below Wb.heap.size Wb wx)
            case atStart => exact ⟨0, by omega, by go_num, ⟨_, _, rfl⟩, H1.out, HW1.out⟩
            case round =>
              obtain ⟨j, hj, rfl, ⟨g6, c6, rfl⟩, hown, hb⟩ := hrel
              clear H1 HW1
              by_cases hjJ : j < J
              · have t4 : decide (8 * (j : Int) + 8 ≤ (N : Int)) = true := decide_eq_true (by have := HJ.out; omega)
                have HO := Lib.hid hown
                have HBj := Lib.hid hb
                clear hown hb
                obtain ⟨w7, hw7⟩ : ∃ w7, w7 = wr := ⟨_, rfl⟩
                subst hw7
                go_wp2_with fail
                have HG := Lib.hid (show (TextMath.group B 8 j).length = 8 from TextMath.group_len B 8 j (by rw [HBN2.out]; have := HJ.out; omega))
                have HGL := Lib.hid (TextMath.group_lt HBLT.out 8 j)
                go_loopg [11, 12] 8 (fun gh s11 s12 wx => ∃ q x : Nat, q + gh = 8 ∧ s12 = .int .i64 (q : Int) ∧ s11 = .int .i64 (x : Int) ∧ Hid (x = TextMath.num ((TextMath.group B 8 j).take q)) ∧ x < 256 ∧ wx = w7)
                case atStart => exact ⟨0, 0, rfl, by go_num, rfl, Lib.hid rfl, by decide, rfl⟩
                case round =>
                  obtain ⟨q, x, hq, rfl, rfl, hx, hx64, rfl⟩ := hrel
                  by_cases h6 : q < 8
                  · have t5 : decide ((q : Int) < 8) = true := decide_eq_true (by omega)
                    have t5' : decide (q < 8) = true := decide_eq_true h6
                    have hlt : 8 * j + q < B.length := by rw [HBN2.out]; have := HJ.out; omega
                    obtain ⟨z, hz⟩ : ∃ z, B[8 * j + q]? = some z := ⟨_, List.getElem?_eq_getElem hlt⟩
                    obtain ⟨G, rfl, c0⟩ := HCELL.out _ z hz
                    have c1 := (HBj.out.cell (p := ⟨G, 8 * j + q, none⟩) (World.block_lt_of_cell? Wb _ c0)).trans c0
                    have hz2 := HBLT.out z (List.mem_of_getElem? hz)
                    have hgz : (TextMath.group B 8 j)[q]? = some z := by rw [TextMath.group_at B 8 j q h6, hz]
                    have hN2 : x * 2 + z = TextMath.num ((TextMath.group B 8 j).take (q + 1)) := by
                      rw [TextMath.take_step hgz, TextMath.num_snoc, ← hx.out]
                    have hN64 : x * 2 + z < 256 := by
                      rw [hN2]
                      have h1 := TextMath.num_lt (l := (TextMath.group B 8 j).take (q + 1)) (fun b hb => HGL.out b (List.mem_of_mem_take hb))
                      have h2 : ((TextMath.group B 8 j).take (q + 1)).length ≤ 8 := by rw [List.length_take, HG.out]; omega
                      have h3 : 2 ^ ((TextMath.group B 8 j).take (q + 1)).length ≤ 2 ^ 8 := Nat.pow_le_pow_right (by decide) h2
                      omega
                    have HN := Lib.hid hN2
                    have k1 : 0 ≤ 8 * (j : Int) + (q : Int) := by omega
                    have k2 : 8 * (j : Int) + (q : Int) < (N : Int) := by have := HJ.out; omega
                    have k3 : (8 * (j : Int) + (q : Int)).toNat = 8 * j + q := by omega
                    have k4 : IntKind.i64.wrap (8 * (j : Int) + (q : Int)) = 8 * (j : Int) + (q : Int) := by have := HJ.out; rw [IntKind.wrap_i64]; omega
                    clear hx hz c0 hgz hN2 hlt
                    go_wp2_with fail
                    go_roundg (8 - (q + 1))
                    case measure => omega
                    case rel => exact ⟨q + 1, x * 2 + z, by omega, by go_num, by go_num, HN, hN64, rfl⟩
                  · obtain rfl : q = 8 := by omega
                    have hEj : E[j]? = some x := by
                      rw [HEAT.out j hjJ, hx.out, List.take_of_length_le (by rw [HG.out]; exact Nat.le_refl _)]
                    have k5 : IntKind.u8.wrap (x : Int) = (x : Int) := by rw [IntKind.wrap_u8]; omega
                    have HT := Lib.hid (show natVals .u8 (E.take j) ++ [.int .u8 (x : Int)] = natVals .u8 (E.take (j + 1)) by
                      rw [TextMath.take_step hEj, natVals_append]
                      rfl)
                    have HO2 := Lib.hid (HO.out.alloc (.cells #[.int .u8 (x : Int)] 5))
                    have hs2 := HBj.out.size
                    have HB2 := Lib.hid (HBj.out.alloc hs2 (.cells #[.int .u8 (x : Int)] 5))
                    clear hEj hx HO
                    go_wp2_with ((at_builtin; refine wpList_append_m rfl _ _ 99 rfl Wb.heap.size 5 ib (.int .u8 0) 1 Tryz.underlying99 hib hb0 hb1 hb2 rfl _ _ _ rfl HO2.out ⟨_, 0, none⟩ 1 1 [.int .u8 (x : Int)] rfl rfl (one_put _ _ _ _ (by simp)) (fun u hu => by simp at hu; subst hu; rfl) (by unfold maxLen; omega) (by omega) (by simp; omega) ?_; intro v2 w2 hown2 hgrow2))
                    have hB2 : Below Wb.heap.size Wb w2 := HB2.out.grown hgrow2 (by simp; omega) (fun q hq => (HO2.out.lt q hq).1)
                    rw [HT.out] at hown2
                    obtain ⟨g9, c9, he9, _⟩ := hown2.open (by omega)
                    go_roundg (J - (j + 1))
                    case measure => omega
                    case rel => exact ⟨j + 1, by omega, congrArg (Value.int .i64) (by omega), ⟨g9, c9, he9⟩, hown2, hB2⟩
              · obtain rfl : j = J := by omega
                have t4 : decide (8 * (j : Int) + 8 ≤ (N : Int)) = false := decide_eq_false (by have := HJ.out; omega)
                rw [List.take_of_length_le (by rw [HEL.out]; exact Nat.le_refl _)] at hown
                have hcv := text_row wr g6 c6 E HELT.out (fun i hi => by
                  obtain ⟨g, c, he, _, _, _, _, hc, _⟩ := hown.open (by rw [HEL.out] at hi; omega)
                  simp only [Value.slice.injEq, Option.some.injEq, Addr.mk.injEq] at he
                  rw [he.1.1]
                  exact hc i (by rw [HEL.out] at hi; omega))
                rw [HEL.out] at hcv
                have HBf := Lib.hid (HB.out.trans (hb.mono HB.out.size))
                have HBj := Lib.hid hb
                clear hown hb
                obtain ⟨w7, hw7⟩ : ∃ w7, w7 = wr := ⟨_, rfl⟩
                subst hw7
                go_wp2_with fail
                go_loopg [10] (N - 8 * j) (fun gh s10 wx => ∃ t : Nat, t + gh = N ∧ 8 * j ≤ t ∧ s10 = .int .i64 (t : Int) ∧ Hid (∀ u z : Nat, 8 * j ≤ u → u < t → B[u]? = some z → z = 0) ∧ wx = w7)
                case atStart => exact ⟨8 * j, by have := HJ.out; omega, Nat.le_refl _, by go_num, Lib.hid (fun u z h1 h2 => absurd h1 (by omega)), rfl⟩
                case round =>
                  obtain ⟨t, ht, htj, rfl, hz0, rfl⟩ := hrel
                  by_cases htN : t < N
                  · have t5 : decide ((t : Int) < (N : Int)) = true := decide_eq_true (by omega)
                    have t5' : decide (t < N) = true := decide_eq_true htN
                    obtain ⟨z, hz⟩ : ∃ z, B[t]? = some z := ⟨_, List.getElem?_eq_getElem (by rw [HBN2.out]; exact htN)⟩
                    obtain ⟨G, rfl, c0⟩ := HCELL.out _ z hz
                    have c1 := (HBj.out.cell (p := ⟨G, t, none⟩) (World.block_lt_of_cell? Wb _ c0)).trans c0
                    by_cases hzz : z = 0
                    · have t6 : ((z : Int) != 0) = false := by simp [hzz]
                      have HN := Lib.hid (show ∀ u y : Nat, 8 * j ≤ u → u < t + 1 → B[u]? = some y → y = 0 from fun u y h1 h2 h3 => by
                        by_cases hut : u = t
                        · rw [hut, hz] at h3
                          rw [← Option.some.inj h3]; exact hzz
                        · exact hz0.out u y h1 (by omega) h3)
                      clear hz0 hz c0 hzz
                      go_wp2_with fail
                      go_roundg (N - (t + 1))
                      case measure => omega
                      case rel => exact ⟨t + 1, by omega, by omega, by go_num, HN, rfl⟩
                    · have t6 : ((z : Int) != 0) = true := by simp only [bne_iff_ne]; omega
                      have HF := Lib.hid (TextMath.fault_bits HGOOD.out (by rw [HLL.out]; exact H41.out) (t := t) (z := z) (by rw [HLL.out, ← HN6.out, ← HJ.out]; exact htj) (by rw [← HBD.out]; exact hz) hzz)
                      rw [HLL.out] at HF
                      have hs1 : 1 ≤ s.size := by have := HN6.out; omega
                      have hsz : ((s.size : Int) - 1) = ((s.size - 1 : Nat) : Int) := by omega
                      have HSZ := Lib.hid hsz
                      clear hz0 hz c0 hzz hsz
                      go_wp2_with fail
                      go_ret2
                      exact ⟨by rw [HV.out]; unfold decValue; rw [HF.out]; simp only []; rw [← HSZ.out]; rfl, HBf.out⟩
                  · obtain rfl : t = N := by omega
                    have t5 : decide (t < t) = false := decide_eq_false (by omega)
                    have HF := Lib.hid (TextMath.fault_none HGOOD.out (by rw [HLL.out]; exact H41.out) (fun u y h1 h2 => by
                      have h3 := (List.getElem?_eq_some_iff.1 h2).1
                      rw [← HBD.out] at h2 h3
                      rw [HLL.out, ← HN6.out, ← HJ.out] at h1
                      exact hz0.out u y h1 (by rw [HBN2.out] at h3; exact h3) h2))
                    clear hz0
                    go_wp2_with fail
                    go_ret2
                    exact ⟨by rw [HV.out]; unfold decValue; rw [HF.out]; simp only []; rw [← HED.out]; rfl, HBf.out⟩
end Go.Proofs.YtajhegjemhegiaaGreatDoor
namespace Go.Proofs.YtajhegjemhegiaaGreatDoor
open Go.RowKit TextNat

def badI : Option Nat → Int
  | none => -1
  | some b => (b : Int)
/-- The document's own reader stands in block pb. -/
structure RefAt (w : World) (pb : Nat) (s : ByteArray) (st : WireMath.At) : Prop where
  text : w.cell? ⟨pb, 0, none⟩ = some (.string s)
  at_ : w.cell? ⟨pb, 1, none⟩ = some (.int .i64 (st.at_ : Int))
  bad : w.cell? ⟨pb, 2, none⟩ = some (.int .i64 (badI st.bad))
  free1 : w.frozen? ⟨pb, 1, none⟩ = false
  free2 : w.frozen? ⟨pb, 2, none⟩ = false
theorem RefAt.lt {w : World} {pb : Nat} {s : ByteArray} {st : WireMath.At} (h : RefAt w pb s st) : pb < w.heap.size := cell_lt h.text
theorem RefAt.keep {w w' : World} {pb qb : Nat} {s : ByteArray} {st : WireMath.At} (h : RefAt w pb s st) (hb : But qb w w') (hq : pb ≠ qb) : RefAt w' pb s st :=
  ⟨(hb.cell h.lt hq).trans h.text, (hb.cell h.lt hq).trans h.at_, (hb.cell h.lt hq).trans h.bad, (hb.frozen h.lt hq).trans h.free1, (hb.frozen h.lt hq).trans h.free2⟩
theorem RefAt.below {w w' : World} {pb : Nat} {s : ByteArray} {st : WireMath.At} (h : RefAt w pb s st) (hb : Below w.heap.size w w') : RefAt w' pb s st :=
  ⟨(hb.cell (p := ⟨pb, 0, none⟩) h.lt).trans h.text, (hb.cell (p := ⟨pb, 1, none⟩) h.lt).trans h.at_, (hb.cell (p := ⟨pb, 2, none⟩) h.lt).trans h.bad, (hb.frozen (p := ⟨pb, 1, none⟩) h.lt).trans h.free1, (hb.frozen (p := ⟨pb, 2, none⟩) h.lt).trans h.free2⟩
theorem RefAt.drewN {w : World} {pb : Nat} {s : ByteArray} {st : WireMath.At} (n : Nat) (h : RefAt w pb s st) : RefAt (w.drewN n) pb s st := ⟨h.text, h.at_, h.bad, h.free1, h.free2⟩
theorem RefAt.grown {w w' : World} {pb : Nat} {s : ByteArray} {st : WireMath.At} {row : Option Nat} (h : RefAt w pb s st) (hg : w.grownBy w' row) (hr : ∀ q, row = some q → pb < q) : RefAt w' pb s st := by
  have hk : w'.heap[pb]? = w.heap[pb]? := hg.block pb h.lt (fun e => by have := hr pb e.symm; omega)
  exact ⟨(World.cell?_of_block (w := w) (a := ⟨pb, 0, none⟩) hk).trans h.text, (World.cell?_of_block (w := w) (a := ⟨pb, 1, none⟩) hk).trans h.at_, (World.cell?_of_block (w := w) (a := ⟨pb, 2, none⟩) hk).trans h.bad, (World.frozen?_of_block (w := w) (a := ⟨pb, 1, none⟩) hk).trans h.free1, (World.frozen?_of_block (w := w) (a := ⟨pb, 2, none⟩) hk).trans h.free2⟩
theorem RefAt.setAt {w : World} {pb n : Nat} {s : ByteArray} {st : WireMath.At} (h : RefAt w pb s st) : RefAt (w.setCell ⟨pb, 1, none⟩ (.int .i64 (n : Int))) pb s ⟨n, st.bad⟩ :=
  ⟨(World.cell?_setCell_other _ ⟨pb, 1, none⟩ ⟨pb, 0, none⟩ _ (by simp)).trans h.text, World.cell?_setCell_same _ _ _ h.at_, (World.cell?_setCell_other _ ⟨pb, 1, none⟩ ⟨pb, 2, none⟩ _ (by simp)).trans h.bad, by rw [World.frozen?_setCell]; exact h.free1, by rw [World.frozen?_setCell]; exact h.free2⟩
theorem RefAt.setBad {w : World} {pb n : Nat} {s : ByteArray} {st : WireMath.At} (h : RefAt w pb s st) : RefAt (w.setCell ⟨pb, 2, none⟩ (.int .i64 (n : Int))) pb s ⟨st.at_, some n⟩ :=
  ⟨(World.cell?_setCell_other _ ⟨pb, 2, none⟩ ⟨pb, 0, none⟩ _ (by simp)).trans h.text, (World.cell?_setCell_other _ ⟨pb, 2, none⟩ ⟨pb, 1, none⟩ _ (by simp)).trans h.at_, World.cell?_setCell_same _ _ _ h.bad, by rw [World.frozen?_setCell]; exact h.free1, by rw [World.frozen?_setCell]; exact h.free2⟩

set_option maxRecDepth 100000 in
set_option maxHeartbeats 4000000 in
theorem refNum (pb : Nat) (s : ByteArray) (st : WireMath.At) (most : Int) (w : World) (h : RefAt w pb s st) (hs : s.size ≤ 200000) (ha : st.at_ ≤ s.size) :
    Calls Tryz.prog 59 #[.pointer (some ⟨pb, 0, none⟩), .int .i64 most] w fun e w' => e = .returned (.int .i64 ((WireMath.readNum (nats s) st most).1 : Nat)) ∧ RefAt w' pb s (WireMath.readNum (nats s) st most).2 ∧ But pb w w' := by
  obtain ⟨at_, bad⟩ := st
  have c0 := h.text
  have c1 := h.at_
  have c2 := h.bad
  have g1 := h.free1
  have g2 := h.free2
  cases bad with
  | some b =>
    have HR := Lib.hid h
    have t1 : decide ((0 : Int) ≤ (b : Int)) = true := decide_eq_true (by omega)
    have c2' : w.cell? ⟨pb, 2, none⟩ = some (.int .i64 (b : Int)) := c2
    clear h c2
    go_enter Tryz.func59, Tryz.ntmps59
    go_wp2
    go_ret
    exact ⟨rfl, HR.out, But.refl _ _⟩
  | none =>
    have c2' : w.cell? ⟨pb, 2, none⟩ = some (.int .i64 (-1)) := c2
    simp only at c1 ha
    have HR := Lib.hid h
    clear h c2
    obtain ⟨L, hL⟩ : ∃ L, L = (nats s).drop at_ := ⟨_, rfl⟩
    have hLl : L.length = s.size - at_ := by rw [hL, List.length_drop, nats_len]
    have hLat : ∀ k (hk : at_ + k < s.size), L[k]? = some (s[at_ + k].toNat) := fun k hk => by rw [hL, List.getElem?_drop]; exact nats_at s (at_ + k) hk
    have HLA := Lib.hid hLat
    have HLL := Lib.hid hLl
    have HL := Lib.hid hL
    clear hL hLl hLat
    go_enter Tryz.func59, Tryz.ntmps59
    go_wp2
    go_loopg [5, 6, 7] 9 (fun gh s5 s6 s7 wx => ∃ k n W : Nat, k + gh = 9 ∧ s5 = .int .i64 (n : Int) ∧ s6 = .int .i64 (W : Int) ∧ s7 = .int .i64 (k : Int) ∧ Hid (W = 128 ^ min k 8) ∧ Hid (n < 128 ^ k) ∧ Hid (WireMath.comb k n (WireMath.rawF (9 - k) (L.drop k)) = WireMath.rawF 9 L) ∧ Hid (RefAt wx pb s ⟨at_, none⟩) ∧ Hid (But pb w wx))
    case atStart => exact ⟨0, 0, 1, rfl, by go_num, by go_num, by go_num, Lib.hid rfl, Lib.hid (by decide), Lib.hid (WireMath.comb_zero _), HR, Lib.hid (But.refl _ _)⟩
    case round =>
      obtain ⟨k, n, W, hk, rfl, rfl, rfl, hW, hn, hc, HX, HB⟩ := hrel
      clear HR c0 c1 c2' g1 g2
      have c0 := HX.out.text
      have c1 : wr.cell? ⟨pb, 1, none⟩ = some (.int .i64 (at_ : Int)) := HX.out.at_
      have hbad : WireMath.rawF 9 L = none → WireMath.readNum (nats s) ⟨at_, none⟩ most = (0, ⟨at_, some at_⟩) := fun h => WireMath.readNum_none (by rw [← HL.out]; exact h)
      by_cases h9 : k < 9
      · have t1 : decide ((k : Int) < 9) = true := decide_eq_true (by omega)
        have t1' : decide (k < 9) = true := decide_eq_true h9
        by_cases hjs : at_ + k < s.size
        · have t2 : decide ((at_ : Int) + (k : Int) < (s.size : Int)) = true := decide_eq_true (by omega)
          go_wp2
          go_quiet (fail)
          obtain ⟨wa, hwa⟩ : ∃ wa, wa = wr.drewN nq := ⟨_, rfl⟩
          have HXa := Lib.hid (show RefAt wa pb s ⟨at_, none⟩ by rw [hwa]; exact HX.out.drewN _)
          have HBa := Lib.hid (show But pb w wa by rw [hwa]; exact HB.out.drewN _)
          have c0a := HXa.out.text
          have c1a : wa.cell? ⟨pb, 1, none⟩ = some (.int .i64 (at_ : Int)) := HXa.out.at_
          rw [← hwa]
          clear hwa HX HB c0 c1
          have i0 : (0 : Int) ≤ (at_ : Int) + (k : Int) := by omega
          have i1 : (at_ : Int) + (k : Int) < (s.size : Int) := by omega
          have i2 : ((at_ : Int) + (k : Int)).toNat = at_ + k := by omega
          go_wp2
          go_quiet (fail)
          obtain ⟨wb, hwb⟩ : ∃ wb, wb = wa.drewN nq := ⟨_, rfl⟩
          have HXb := Lib.hid (show RefAt wb pb s ⟨at_, none⟩ by rw [hwb]; exact HXa.out.drewN _)
          have HBb := Lib.hid (show But pb w wb by rw [hwb]; exact HBa.out.drewN _)
          have c1b : wb.cell? ⟨pb, 1, none⟩ = some (.int .i64 (at_ : Int)) := HXb.out.at_
          have c2b : wb.cell? ⟨pb, 2, none⟩ = some (.int .i64 (-1)) := HXb.out.bad
          have g1 := HXb.out.free1
          have g2 := HXb.out.free2
          rw [← hwb]
          obtain ⟨z, hz⟩ : ∃ z, z = (s[at_ + k]'hjs).toNat := ⟨_, rfl⟩
          have hzl : z < 256 := by rw [hz]; exact UInt8.toNat_lt _
          have hzL : L[k]? = some z := by rw [HLA.out k hjs, hz]
          simp only [← hz]
          clear hwb HXa HBa c0a c1a i0 i1 i2 t2
          have hw64 : wrap64 (z : Int) = (z : Int) := by unfold wrap64; omega
          simp only [hw64]
          obtain ⟨y, hy⟩ : ∃ y, y = z % 128 := ⟨_, rfl⟩
          have f1 : (z : Int).tmod 128 = (y : Int) := by rw [Int.tmod_eq_emod_of_nonneg (by omega)]; omega
          have hWk : W = 128 ^ k := by rw [hW.out]; congr 1; omega
          have hn2 : n + y * W < 128 ^ (k + 1) := by
            have h1 := hn.out
            have h2 : y * W ≤ 127 * 128 ^ k := by rw [hWk]; exact Nat.mul_le_mul_right _ (by omega)
            rw [Nat.pow_succ]
            omega
          have hp9 : 128 ^ (k + 1) ≤ 9223372036854775808 := Nat.le_trans (Nat.pow_le_pow_right (by decide) (show k + 1 ≤ 9 by omega)) (by decide)
          obtain ⟨p, hp⟩ : ∃ p, p = y * W := ⟨_, rfl⟩
          obtain ⟨n2, hn2e⟩ : ∃ n2, n2 = n + p := ⟨_, rfl⟩
          have hpi : (y : Int) * (W : Int) = (p : Int) := by rw [hp]; exact (Int.natCast_mul y W).symm
          rw [← hp] at hn2
          have f2 : IntKind.i64.wrap ((y : Int) * (W : Int)) = (p : Int) := by rw [hpi, IntKind.wrap_i64]; omega
          have f3 : IntKind.i64.wrap ((n : Int) + (p : Int)) = (n2 : Int) := by rw [IntKind.wrap_i64]; omega
          by_cases h128 : z < 128
          · have hend := WireMath.comb_end (n := n) h9 hzL h128
            rw [hc.out, ← hy, ← hWk, ← hp, ← hn2e] at hend
            have t3 : decide ((z : Int) < 128) = true := decide_eq_true (by omega)
            have t3' : decide (z < 128) = true := decide_eq_true h128
            have t5 : decide ((n2 : Int) < 0) = false := decide_eq_false (by omega)
            by_cases hz0 : 0 < k ∧ z = 0
            · rw [if_pos hz0] at hend
              have HF := Lib.hid (hbad hend)
              obtain ⟨hk0, hz1⟩ := hz0
              have t4 : decide ((0 : Int) < (k : Int)) = true := decide_eq_true (by omega)
              have t4' : decide (0 < k) = true := decide_eq_true hk0
              have t6 : ((z : Int) == 0) = true := by simp only [beq_iff_eq]; omega
              have t6' : (z == 0) = true := by simpa using hz1
              clear hend hbad hW hn hc hzL hzl hz hy hWk hp9 hn2 hp hn2e hpi
              go_wp2
              go_ret
              rw [HF.out]
              exact ⟨rfl, HXb.out.setBad, HBb.out.trans (But.set pb 2 wb _)⟩
            · rw [if_neg hz0] at hend
              by_cases hz1 : z = 0
              · have hk1 : k = 0 := by omega
                have t8 : ((z : Int) == 0) = true := by simp only [beq_iff_eq]; omega
                have t8' : (z == 0) = true := by simpa using hz1
                have t9 : decide ((0 : Int) < (k : Int)) = false := decide_eq_false (by omega)
                have t9' : decide (0 < k) = false := decide_eq_false (by omega)
                clear hz0 hz1 hk1
                by_cases ho : (n2 : Int) ≤ most ∧ n2 ≤ WireMath.top
                · skip
                  have HF := Lib.hid (WireMath.readNum_ok (l := nats s) (a := at_) (by rw [← HL.out]; exact hend) ho.1 ho.2)
                  have t6 : decide (most < (n2 : Int)) = false := decide_eq_false (by omega)
                  have t7 : decide ((4611686018427387903 : Int) < (n2 : Int)) = false := decide_eq_false (by have := ho.2; unfold WireMath.top at this; omega)
                  have t7' : decide (4611686018427387903 < n2) = false := decide_eq_false (by have := ho.2; unfold WireMath.top at this; omega)
                  have HJ := Lib.hid (show (at_ : Int) + (k : Int) + 1 = ((at_ + (k + 1) : Nat) : Int) by omega)
                  clear hend hbad hW hn hc hzL hzl hz hy hWk hp9 hn2 hp hn2e hpi ho
                  go_wp2
                  go_ret
                  rw [HF.out, HJ.out]
                  exact ⟨rfl, HXb.out.setAt, HBb.out.trans (But.set pb 1 wb _)⟩
                · skip
                  have HF := Lib.hid (WireMath.readNum_big (l := nats s) (a := at_) (by rw [← HL.out]; exact hend) ho)
                  unfold WireMath.top at ho
                  by_cases hm : (n2 : Int) ≤ most
                  · have t6 : decide (most < (n2 : Int)) = false := decide_eq_false (by omega)
                    have t7 : decide ((4611686018427387903 : Int) < (n2 : Int)) = true := decide_eq_true (by omega)
                    have t7' : decide (4611686018427387903 < n2) = true := decide_eq_true (by omega)
                    clear hend hbad hW hn hc hzL hzl hz hy hWk hp9 hn2 hp hn2e hpi ho
                    go_wp2
                    go_ret
                    rw [HF.out]
                    exact ⟨rfl, HXb.out.setBad, HBb.out.trans (But.set pb 2 wb _)⟩
                  · have t6 : decide (most < (n2 : Int)) = true := decide_eq_true (by omega)
                    clear hend hbad hW hn hc hzL hzl hz hy hWk hp9 hn2 hp hn2e hpi ho
                    go_wp2
                    go_ret
                    rw [HF.out]
                    exact ⟨rfl, HXb.out.setBad, HBb.out.trans (But.set pb 2 wb _)⟩
              · have t8 : ((z : Int) == 0) = false := by simp only [beq_eq_false_iff_ne]; omega
                have t8' : (z == 0) = false := by simpa using hz1
                clear hz0 hz1
                by_cases ho : (n2 : Int) ≤ most ∧ n2 ≤ WireMath.top
                · skip
                  have HF := Lib.hid (WireMath.readNum_ok (l := nats s) (a := at_) (by rw [← HL.out]; exact hend) ho.1 ho.2)
                  have t6 : decide (most < (n2 : Int)) = false := decide_eq_false (by omega)
                  have t7 : decide ((4611686018427387903 : Int) < (n2 : Int)) = false := decide_eq_false (by have := ho.2; unfold WireMath.top at this; omega)
                  have t7' : decide (4611686018427387903 < n2) = false := decide_eq_false (by have := ho.2; unfold WireMath.top at this; omega)
                  have HJ := Lib.hid (show (at_ : Int) + (k : Int) + 1 = ((at_ + (k + 1) : Nat) : Int) by omega)
                  clear hend hbad hW hn hc hzL hzl hz hy hWk hp9 hn2 hp hn2e hpi ho
                  go_wp2
                  go_ret
                  rw [HF.out, HJ.out]
                  exact ⟨rfl, HXb.out.setAt, HBb.out.trans (But.set pb 1 wb _)⟩
                · skip
                  have HF := Lib.hid (WireMath.readNum_big (l := nats s) (a := at_) (by rw [← HL.out]; exact hend) ho)
                  unfold WireMath.top at ho
                  by_cases hm : (n2 : Int) ≤ most
                  · have t6 : decide (most < (n2 : Int)) = false := decide_eq_false (by omega)
                    have t7 : decide ((4611686018427387903 : Int) < (n2 : Int)) = true := decide_eq_true (by omega)
                    have t7' : decide (4611686018427387903 < n2) = true := decide_eq_true (by omega)
                    clear hend hbad hW hn hc hzL hzl hz hy hWk hp9 hn2 hp hn2e hpi ho
                    go_wp2
                    go_ret
                    rw [HF.out]
                    exact ⟨rfl, HXb.out.setBad, HBb.out.trans (But.set pb 2 wb _)⟩
                  · have t6 : decide (most < (n2 : Int)) = true := decide_eq_true (by omega)
                    clear hend hbad hW hn hc hzL hzl hz hy hWk hp9 hn2 hp hn2e hpi ho
                    go_wp2
                    go_ret
                    rw [HF.out]
                    exact ⟨rfl, HXb.out.setBad, HBb.out.trans (But.set pb 2 wb _)⟩
          · have hgo := WireMath.comb_go (n := n) h9 hzL (by omega) hzl
            rw [hc.out, ← hy, ← hWk, ← hp, ← hn2e] at hgo
            have t3 : decide ((z : Int) < 128) = false := decide_eq_false (by omega)
            have t3' : decide (z < 128) = false := decide_eq_false h128
            have HN := Lib.hid (show n2 < 128 ^ (k + 1) by omega)
            have HG := Lib.hid hgo.symm
            by_cases h8 : k < 8
            · have t10 : decide ((k : Int) < 8) = true := decide_eq_true (by omega)
              have t10' : decide (k < 8) = true := decide_eq_true h8
              obtain ⟨W2, hW2⟩ : ∃ W2, W2 = W * 128 := ⟨_, rfl⟩
              have hW3 : W2 ≤ 72057594037927936 := by
                rw [hW2, hWk, ← Nat.pow_succ]
                exact Nat.le_trans (Nat.pow_le_pow_right (by decide) (show k + 1 ≤ 8 by omega)) (by decide)
              have f5 : IntKind.i64.wrap ((W : Int) * 128) = (W2 : Int) := by rw [IntKind.wrap_i64]; omega
              have HW2 := Lib.hid (show W2 = 128 ^ min (k + 1) 8 by rw [hW2, hWk, ← Nat.pow_succ]; congr 1; omega)
              clear hgo hbad hW hn hc hzL hzl hz hy hWk hp9 hn2 hp hn2e hpi hW2
              go_wp2
              go_roundg (9 - (k + 1))
              case measure => omega
              case rel => exact ⟨k + 1, n2, W2, by omega, rfl, rfl, by go_num, HW2, HN, HG, HXb, HBb⟩
            · obtain rfl : k = 8 := by omega
              have HW2 := Lib.hid (show W = 128 ^ min (8 + 1) 8 by rw [hWk]; rfl)
              clear hgo hbad hW hn hc hzL hzl hz hy hWk hp9 hn2 hp hn2e hpi
              go_wp2
              go_roundg 0
              case measure => omega
              case rel => exact ⟨9, n2, W, rfl, rfl, rfl, rfl, HW2, HN, HG, HXb, HBb⟩
        · have t2 : decide ((at_ : Int) + (k : Int) < (s.size : Int)) = false := decide_eq_false (by omega)
          have HF := Lib.hid (hbad (by rw [← hc.out]; exact WireMath.comb_none (.inr (by have := HLL.out; omega))))
          clear hbad hW hn hc
          go_wp2
          go_quiet (fail)
          obtain ⟨wa, hwa⟩ : ∃ wa, wa = wr.drewN nq := ⟨_, rfl⟩
          have HXa := Lib.hid (show RefAt wa pb s ⟨at_, none⟩ by rw [hwa]; exact HX.out.drewN _)
          have HBa := Lib.hid (show But pb w wa by rw [hwa]; exact HB.out.drewN _)
          have c1a : wa.cell? ⟨pb, 1, none⟩ = some (.int .i64 (at_ : Int)) := HXa.out.at_
          have c2a : wa.cell? ⟨pb, 2, none⟩ = some (.int .i64 (-1)) := HXa.out.bad
          have g2 := HXa.out.free2
          rw [← hwa]
          clear hwa HX HB c0 c1
          go_wp2
          go_ret
          rw [HF.out]
          exact ⟨rfl, HXa.out.setBad, HBa.out.trans (But.set pb 2 wa _)⟩
      · obtain rfl : k = 9 := by omega
        have HF := Lib.hid (hbad (by rw [← hc.out]; exact WireMath.comb_none (.inl (Nat.le_refl _))))
        clear hbad hW hn hc
        go_wp2
        go_quiet (fail)
        obtain ⟨wa, hwa⟩ : ∃ wa, wa = wr.drewN nq := ⟨_, rfl⟩
        have HXa := Lib.hid (show RefAt wa pb s ⟨at_, none⟩ by rw [hwa]; exact HX.out.drewN _)
        have HBa := Lib.hid (show But pb w wa by rw [hwa]; exact HB.out.drewN _)
        have c1a : wa.cell? ⟨pb, 1, none⟩ = some (.int .i64 (at_ : Int)) := HXa.out.at_
        have c2a : wa.cell? ⟨pb, 2, none⟩ = some (.int .i64 (-1)) := HXa.out.bad
        have g2 := HXa.out.free2
        rw [← hwa]
        clear hwa HX HB c0 c1
        go_wp2
        go_ret
        rw [HF.out]
        exact ⟨rfl, HXa.out.setBad, HBa.out.trans (But.set pb 2 wa _)⟩
end Go.Proofs.YtajhegjemhegiaaGreatDoor
