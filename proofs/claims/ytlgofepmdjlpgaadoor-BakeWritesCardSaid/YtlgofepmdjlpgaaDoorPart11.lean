/-
  Texts of one claim, merged.
  RefNum5: The contract of the document's own Number of chapter 5: a number's bytes. The condition: a number below 2^63.
  BakeRef: The document's own small functions of chapter 14: until, small, number, digits. The conditions: a text of at most 20,000 bytes; a number of at most 10^20.
-/
import Derived.Test.YtlgofepmdjlpgaaDoorPart10
import Derived.Test.YtlgofepmdjlpgaaDoorPart06
import Derived.Test.YtlgofepmdjlpgaaDoorPart02
import Derived.Test.YtlgofepmdjlpgaaDoorPart07
import Derived.Deep.LoopGhost
import Derived.Deep.RegionWith
import Derived.StillTailTactics
namespace Go.Proofs.YtlgofepmdjlpgaaDoor
open Go.RowKit TextNat

/-- One byte laid in memory, as a text. -/
theorem one_byte (w : World) (x : Nat) (hx : x < 256) :
    (convert 41 9 (.slice (some ⟨w.heap.size, 0, none⟩) 1 1)).run Tryd.prog (w.alloc (.cells #[.int .u8 (x : Int)] 5)) = .ok (.string (txt [x])) (w.alloc (.cells #[.int .u8 (x : Int)] 5)) := by
  have h := text_row (w.alloc (.cells #[.int .u8 (x : Int)] 5)) w.heap.size 1 [x] (by simpa using hx) (fun j hj => by
    simp at hj
    subst hj
    rw [World.cell?_alloc_at _ _ _ _ (by simp)]
    rfl)
  exact h

theorem txt_size_append (D E : List Nat) : ¬ 9223372036854775807 < (txt D).size + (txt E).size ↔ D.length + E.length ≤ 9223372036854775807 := by
  rw [txt_len, txt_len]; omega

end Go.Proofs.YtlgofepmdjlpgaaDoor
namespace Go.Proofs.YtlgofepmdjlpgaaDoor
open Go.RowKit TextNat BakeMath

theorem take_txt (s : ByteArray) (i : Nat) : s.extract 0 i = txt ((nats s).take i) := by
  rw [← txt_nats (s.extract 0 i), text_extract, List.drop_zero]
theorem drop_txt (s : ByteArray) (i : Nat) : s.extract i s.size = txt ((nats s).drop i) := by
  rw [← txt_nats (s.extract i s.size), text_extract, List.take_of_length_le (by rw [nats_len]; exact Nat.le_refl _)]
set_option maxRecDepth 100000 in
set_option maxHeartbeats 4000000 in
theorem refUntil (s : ByteArray) (c : Nat) (w : World) (hs : s.size ≤ 20000) :
    Calls Tryd.prog 25 #[.string s, .int .u8 (c : Int)] w fun e w' => e = .returned (.tuple #[.string (txt (cutAt c (nats s)).1), .string (txt (cutAt c (nats s)).2.1), .bool (cutAt c (nats s)).2.2]) ∧ Below w.heap.size w w' := by
  have mixed : Tryd.prog.follows .mixedOrders = true := by kernel_rfl
  go_enter Tryd.func25, Tryd.ntmps25
  go_wp2
  go_loopg [7] s.size (fun gh s7 wx => ∃ i : Nat, i + gh = s.size ∧ s7 = .int .i64 (i : Int) ∧ Hid (∀ j, j < i → (nats s)[j]? ≠ some c) ∧ wx = w)
  case atStart => exact ⟨0, by omega, by go_num, Lib.hid (fun j hj => absurd hj (Nat.not_lt_zero j)), rfl⟩
  case round =>
    obtain ⟨i, hi, rfl, hn, rfl⟩ := hrel
    by_cases hlt : i < s.size
    · have t1 : decide ((i : Int) < (s.size : Int)) = true := decide_eq_true (by omega)
      have t1' : decide (i < s.size) = true := decide_eq_true hlt
      obtain ⟨z, hz⟩ : ∃ z, z = (s[i]'hlt).toNat := ⟨_, rfl⟩
      have hx : ((s[i]'hlt).toNat : Int) = (z : Int) := by rw [hz]
      have hzi : (nats s)[i]? = some z := by rw [hz]; exact nats_at s i hlt
      by_cases hc : z = c
      · have HF := Lib.hid (show cutAt c (nats s) = ((nats s).take i, (nats s).drop (i + 1), true) from cutAt_at hn.out (by rw [hzi, hc]))
        have t2 : ((z : Int) == (c : Int)) = true := by rw [beq_iff_eq]; omega
        obtain ⟨j, hj⟩ : ∃ j, j = i + 1 := ⟨_, rfl⟩
        have k1 : IntKind.i64.wrap ((i : Int) + 1) = (j : Int) := by rw [IntKind.wrap_i64]; omega
        have k2 : (i : Int) + 1 = (j : Int) := by omega
        have c1 : (0 : Int) ≤ (i : Int) := by omega
        have c2 : (i : Int) ≤ (s.size : Int) := by omega
        have c3 : (0 : Int) ≤ (j : Int) := by omega
        have c4 : (j : Int) ≤ (s.size : Int) := by omega
        have HA := Lib.hid (take_txt s i)
        have HD := Lib.hid (drop_txt s j)
        rw [← hj] at HF
        clear hn hz hzi hc hj
        go_wp2
        go_region
        go_wp2
        go_ret3
        exact ⟨by rw [HF.out, ← HA.out, ← HD.out]; rfl, (Below.refl _ _).drew⟩
      · have t2 : ((z : Int) == (c : Int)) = false := by rw [beq_eq_false_iff_ne]; omega
        have HN := Lib.hid (show ∀ j, j < i + 1 → (nats s)[j]? ≠ some c by
          intro j hj
          by_cases hji : j = i
          · rw [hji, hzi]
            exact fun e => hc (Option.some.inj e)
          · exact hn.out j (by omega))
        clear hn hz hzi hc
        go_wp2
        go_roundg (s.size - (i + 1))
        case measure => omega
        case rel => exact ⟨i + 1, by omega, by go_num, HN, rfl⟩
    · obtain rfl : i = s.size := by omega
      have t1 : decide (s.size < s.size) = false := decide_eq_false (by omega)
      have HF := Lib.hid (show cutAt c (nats s) = (nats s, [], false) from cutAt_no fun j hj => hn.out j (by rw [nats_len] at hj; exact hj))
      have HS := Lib.hid (txt_nats s)
      clear hn
      go_wp2
      go_ret3
      exact ⟨by rw [HF.out, HS.out]; rfl, Below.refl _ _⟩
theorem lower_lt {b : Nat} (h : b < 256) : lower b < 256 := by unfold lower; split <;> omega
theorem small_step {l : List Nat} {i z : Nat} (h : l[i]? = some z) : natVals .u8 (small (l.take i)) ++ [.int .u8 (lower z : Int)] = natVals .u8 (small (l.take (i + 1))) := by
  unfold small
  rw [List.take_add_one, h, List.map_append, natVals_append]
  rfl
set_option maxRecDepth 100000 in
set_option maxHeartbeats 4000000 in
theorem refSmall (s : ByteArray) (w : World) (hs : s.size ≤ 20000) :
    Calls Tryd.prog 27 #[.string s] w fun e w' => e = .returned (.string (txt (small (nats s)))) ∧ Below w.heap.size w w' := by
  obtain ⟨ib, hib, hb0, hb1, hb2⟩ := info_parts info_byte
  obtain ⟨l, hl⟩ : ∃ l, l = nats s := ⟨_, rfl⟩
  have hll : l.length = s.size := by rw [hl]; exact nats_len s
  have HL := Lib.hid hl
  have HLL := Lib.hid hll
  have HLt := Lib.hid (show ∀ b ∈ small l, b < 256 from fun b hb => by
    obtain ⟨c, hc, rfl⟩ := List.mem_map.1 hb
    exact lower_lt (nats_lt s c (by rw [← hl]; exact hc)))
  have O1 := Lib.hid (OwnsM.of (World.ownsRow_made (base := w.heap.size) (e := 5) (size := 1) w #[] 0 (Nat.le_refl _) (by simp) (by simp)))
  have B1 := Lib.hid ((Below.refl w.heap.size w).alloc (Nat.le_refl _) (.cells #[] 5))
  rw [← hl]
  clear hl hll
  go_enter Tryd.func27, Tryd.ntmps27
  go_wp2_with fail
  go_loopg [3, 4, 5] s.size (fun gh s3 s4 s5 wx => ∃ i : Nat, i + gh = s.size ∧ s4 = .int .i64 (i : Int) ∧ (∃ g c : Nat, s3 = .slice (some ⟨g, 0, none⟩) i c) ∧ OwnsM wx w.heap.size 5 s3 i (natVals .u8 (small (l.take i))) ∧ Below w.heap.size w wx)
  case atStart => exact ⟨0, by omega, by go_num, ⟨_, _, rfl⟩, O1.out, B1.out⟩
  case round =>
    obtain ⟨i, hi, rfl, ⟨g6, c6, rfl⟩, hown, hb⟩ := hrel
    by_cases hlt : i < s.size
    · have t1 : decide ((i : Int) < (s.size : Int)) = true := decide_eq_true (by omega)
      have t1' : decide (i < s.size) = true := decide_eq_true hlt
      obtain ⟨z, hz⟩ : ∃ z, z = (s[i]'hlt).toNat := ⟨_, rfl⟩
      have hx : ((s[i]'hlt).toNat : Int) = (z : Int) := by rw [hz]
      have hzl : z < 256 := by rw [hz]; exact UInt8.toNat_lt _
      have hzi : l[i]? = some z := by rw [hz, HL.out]; exact nats_at s i hlt
      obtain ⟨y, hy⟩ : ∃ y, y = lower z := ⟨_, rfl⟩
      have hT := small_step hzi
      rw [← hy] at hT
      have HT := Lib.hid hT
      have HO2 := Lib.hid (hown.alloc (.cells #[.int .u8 (y : Int)] 5))
      have hs2 := hb.size
      have HB2 := Lib.hid (hb.alloc hs2 (.cells #[.int .u8 (y : Int)] 5))
      clear hz hzi hT hown hb O1 B1
      by_cases hc : 65 ≤ z ∧ z ≤ 90
      · have t2 : decide ((65 : Int) ≤ (z : Int)) = true := decide_eq_true (by omega)
        have t3 : decide ((z : Int) ≤ 90) = true := decide_eq_true (by omega)
        have k5 : IntKind.u8.wrap ((z : Int) + 32) = (y : Int) := by rw [IntKind.wrap_u8, hy]; unfold lower; rw [if_pos hc]; omega
        clear hy hc
        go_wp2_with ((at_builtin; refine wpList_append_m rfl _ _ 41 rfl w.heap.size 5 ib (.int .u8 0) 1 Tryd.underlying41 hib hb0 hb1 hb2 rfl _ _ _ rfl HO2.out ⟨_, 0, none⟩ 1 1 [.int .u8 (y : Int)] rfl rfl (one_put _ _ _ _ (by simp)) (fun u hu => by simp at hu; subst hu; rfl) (by unfold maxLen; omega) (by omega) (by simp; omega) ?_; intro v2 w2 hown2 hgrow2))
        have hB2 : Below w.heap.size w w2 := HB2.out.grown hgrow2 (by simp; omega) (fun q hq => (HO2.out.lt q hq).1)
        rw [HT.out] at hown2
        obtain ⟨g9, c9, he9, _⟩ := hown2.open (by omega)
        go_roundg (s.size - (i + 1))
        case measure => omega
        case rel => exact ⟨i + 1, by omega, congrArg (Value.int .i64) (by omega), ⟨g9, c9, he9⟩, hown2, hB2⟩
      · have hyz : y = z := by rw [hy]; unfold lower; rw [if_neg hc]
        subst hyz
        by_cases h65 : 65 ≤ y
        · have t2 : decide ((65 : Int) ≤ (y : Int)) = true := decide_eq_true (by omega)
          have t3 : decide ((y : Int) ≤ 90) = false := decide_eq_false (by omega)
          clear hy hc
          go_wp2_with ((at_builtin; refine wpList_append_m rfl _ _ 41 rfl w.heap.size 5 ib (.int .u8 0) 1 Tryd.underlying41 hib hb0 hb1 hb2 rfl _ _ _ rfl HO2.out ⟨_, 0, none⟩ 1 1 [.int .u8 (y : Int)] rfl rfl (one_put _ _ _ _ (by simp)) (fun u hu => by simp at hu; subst hu; rfl) (by unfold maxLen; omega) (by omega) (by simp; omega) ?_; intro v2 w2 hown2 hgrow2))
          have hB2 : Below w.heap.size w w2 := HB2.out.grown hgrow2 (by simp; omega) (fun q hq => (HO2.out.lt q hq).1)
          rw [HT.out] at hown2
          obtain ⟨g9, c9, he9, _⟩ := hown2.open (by omega)
          go_roundg (s.size - (i + 1))
          case measure => omega
          case rel => exact ⟨i + 1, by omega, congrArg (Value.int .i64) (by omega), ⟨g9, c9, he9⟩, hown2, hB2⟩
        · have t2 : decide ((65 : Int) ≤ (y : Int)) = false := decide_eq_false (by omega)
          clear hy hc
          go_wp2_with ((at_builtin; refine wpList_append_m rfl _ _ 41 rfl w.heap.size 5 ib (.int .u8 0) 1 Tryd.underlying41 hib hb0 hb1 hb2 rfl _ _ _ rfl HO2.out ⟨_, 0, none⟩ 1 1 [.int .u8 (y : Int)] rfl rfl (one_put _ _ _ _ (by simp)) (fun u hu => by simp at hu; subst hu; rfl) (by unfold maxLen; omega) (by omega) (by simp; omega) ?_; intro v2 w2 hown2 hgrow2))
          have hB2 : Below w.heap.size w w2 := HB2.out.grown hgrow2 (by simp; omega) (fun q hq => (HO2.out.lt q hq).1)
          rw [HT.out] at hown2
          obtain ⟨g9, c9, he9, _⟩ := hown2.open (by omega)
          go_roundg (s.size - (i + 1))
          case measure => omega
          case rel => exact ⟨i + 1, by omega, congrArg (Value.int .i64) (by omega), ⟨g9, c9, he9⟩, hown2, hB2⟩
    · obtain rfl : i = s.size := by omega
      have t1 : decide (s.size < s.size) = false := decide_eq_false (by omega)
      have hlen : (small l).length = s.size := by unfold small; rw [List.length_map]; exact HLL.out
      rw [List.take_of_length_le (by rw [HLL.out]; exact Nat.le_refl _)] at hown
      have hcv := text_row wr g6 c6 (small l) HLt.out (fun i hi => by
        obtain ⟨g, c, he, _, _, _, _, hc, _⟩ := hown.open (by rw [hlen] at hi; omega)
        simp only [Value.slice.injEq, Option.some.injEq, Addr.mk.injEq] at he
        rw [he.1.1]
        exact hc i (by rw [hlen] at hi; omega))
      rw [hlen] at hcv
      have HB := Lib.hid hb
      clear hown hb O1 B1 hlen
      go_wp2
      go_ret
      exact ⟨rfl, HB.out⟩
theorem decF_len : ∀ f n, (decF f n).length ≤ f + 1
  | 0, n => by simp [decF]
  | f + 1, n => by
    unfold decF
    split
    · simp
    · have := decF_len f (n / 10)
      simp only [List.length_append, List.length_cons, List.length_nil]
      omega
theorem decF_lt : ∀ f n, ∀ b ∈ decF f n, b < 256
  | 0, n, b, h => by simp [decF] at h; omega
  | f + 1, n, b, h => by
    unfold decF at h
    split at h
    · simp at h
      omega
    · rcases List.mem_append.1 h with h | h
      · exact decF_lt f (n / 10) b h
      · simp at h
        omega
/-- One byte in memory, as a text. -/
theorem byte_at (W : World) (g x : Nat) (hx : x < 256) (h : W.cell? ⟨g, 0, none⟩ = some (.int .u8 (x : Int))) :
    (convert 41 9 (.slice (some ⟨g, 0, none⟩) 1 1)).run Tryd.prog W = .ok (.string (txt [x])) W :=
  text_row W g 1 [x] (by simpa using hx) (fun j hj => by
    simp at hj
    subst hj
    rw [h]
    rfl)
theorem byte_drew (w : World) (x : Nat) (hx : x < 256) :
    (convert 41 9 (.slice (some ⟨w.heap.size, 0, none⟩) 1 1)).run Tryd.prog (w.alloc (.cells #[.int .u8 (x : Int)] 5)).drew = .ok (.string (txt [x])) (w.alloc (.cells #[.int .u8 (x : Int)] 5)).drew :=
  byte_at _ _ x hx (show (w.alloc (.cells #[.int .u8 (x : Int)] 5)).cell? ⟨w.heap.size, 0, none⟩ = _ by
    rw [World.cell?_alloc_at _ _ _ _ (by simp)]
    rfl)
theorem byte_after {w wn : World} {x : Nat} (hx : x < 256) (hb : Below (w.alloc (.cells #[.int .u8 (x : Int)] 5)).drew.heap.size (w.alloc (.cells #[.int .u8 (x : Int)] 5)).drew wn) :
    Below w.heap.size w wn ∧ (convert 41 9 (.slice (some ⟨w.heap.size, 0, none⟩) 1 1)).run Tryd.prog wn = .ok (.string (txt [x])) wn := by
  have hb0 : Below w.heap.size w (w.alloc (.cells #[.int .u8 (x : Int)] 5)).drew := ((Below.refl _ _).alloc (Nat.le_refl _) _).drew
  refine ⟨hb0.trans (hb.mono hb0.size), byte_at _ _ x hx ?_⟩
  have hc : (w.alloc (.cells #[.int .u8 (x : Int)] 5)).drew.cell? ⟨w.heap.size, 0, none⟩ = some (.int .u8 (x : Int)) := show (w.alloc (.cells #[.int .u8 (x : Int)] 5)).cell? ⟨w.heap.size, 0, none⟩ = _ by
    rw [World.cell?_alloc_at _ _ _ _ (by simp)]
    rfl
  exact (hb.cell (p := ⟨w.heap.size, 0, none⟩) (World.block_lt_of_cell? _ _ hc)).trans hc
set_option maxRecDepth 100000 in
set_option maxHeartbeats 4000000 in
theorem refDigitsF : ∀ (f n : Nat) (w : World), n < 10 ^ (f + 1) → f ≤ 16 →
    Calls Tryd.prog 24 #[.int .i64 (n : Int)] w fun e w' => e = .returned (.string (txt (decF f n))) ∧ Below w.heap.size w w' := by
  intro f
  induction f with
  | zero =>
    intro n w hn _
    have hn10 : n < 10 := by simpa using hn
    have t1 : decide ((n : Int) < 10) = true := decide_eq_true (by omega)
    have t1' : decide (n < 10) = true := decide_eq_true hn10
    obtain ⟨x, hx⟩ : ∃ x, x = 48 + n := ⟨_, rfl⟩
    have k1 : IntKind.i64.wrap (48 + (n : Int)) = (x : Int) := by rw [IntKind.wrap_i64]; omega
    have k2 : IntKind.u8.wrap (x : Int) = (x : Int) := by rw [IntKind.wrap_u8]; omega
    have k3 := one_byte w x (by omega)
    have HD := Lib.hid (show decF 0 n = [x] by unfold decF; rw [hx, Nat.mod_eq_of_lt hn10])
    clear hn hx
    go_enter Tryd.func24, Tryd.ntmps24
    go_wp2
    go_ret
    exact ⟨by rw [HD.out]; rfl, (Below.refl _ _).alloc (Nat.le_refl _) _⟩
  | succ f ih =>
    intro n w hn hf
    by_cases hn10 : n < 10
    · have t1 : decide ((n : Int) < 10) = true := decide_eq_true (by omega)
      have t1' : decide (n < 10) = true := decide_eq_true hn10
      obtain ⟨x, hx⟩ : ∃ x, x = 48 + n := ⟨_, rfl⟩
      have k1 : IntKind.i64.wrap (48 + (n : Int)) = (x : Int) := by rw [IntKind.wrap_i64]; omega
      have k2 : IntKind.u8.wrap (x : Int) = (x : Int) := by rw [IntKind.wrap_u8]; omega
      have k3 := one_byte w x (by omega)
      have HD := Lib.hid (show decF (f + 1) n = [x] by unfold decF; rw [if_pos hn10, hx])
      clear hn hx ih
      go_enter Tryd.func24, Tryd.ntmps24
      go_wp2
      go_ret
      exact ⟨by rw [HD.out]; rfl, (Below.refl _ _).alloc (Nat.le_refl _) _⟩
    · have t1 : decide ((n : Int) < 10) = false := decide_eq_false (by omega)
      have t1' : decide (n < 10) = false := decide_eq_false hn10
      obtain ⟨q, hq⟩ : ∃ q, q = n / 10 := ⟨_, rfl⟩
      obtain ⟨r, hr⟩ : ∃ r, r = n % 10 := ⟨_, rfl⟩
      obtain ⟨x, hx⟩ : ∃ x, x = 48 + r := ⟨_, rfl⟩
      have hb63 : n < 9223372036854775808 := by
        have h1 : 10 ^ (f + 1 + 1) ≤ 10 ^ 18 := Nat.pow_le_pow_right (by decide) (by omega)
        have h2 : (10 : Nat) ^ 18 = 1000000000000000000 := by decide
        omega
      have f1 : (n : Int).tmod 10 = (r : Int) := by rw [Int.tmod_eq_emod_of_nonneg (by omega)]; omega
      have f2 : (n : Int).tdiv 10 = (q : Int) := by rw [Int.tdiv_eq_ediv_of_nonneg (by omega)]; omega
      have f5 : IntKind.i64.wrap (q : Int) = (q : Int) := by rw [IntKind.wrap_i64]; omega
      have k1 : IntKind.i64.wrap (48 + (r : Int)) = (x : Int) := by rw [IntKind.wrap_i64]; omega
      have k2 : IntKind.u8.wrap (x : Int) = (x : Int) := by rw [IntKind.wrap_u8]; omega
      have hx256 : x < 256 := by omega
      have k3 := fun w => one_byte w x hx256
      have k4 := fun w => byte_drew w x hx256
      have HIh := Lib.hid (fun w1 => ih q w1 (by rw [hq, Nat.pow_succ] at *; omega) (by omega))
      have HD := Lib.hid (show decF (f + 1) n = decF f q ++ [x] by rw [decF, if_neg hn10, hx, hr, hq])
      have hdl := decF_len f q
      have f7 : ¬ 9223372036854775807 < (txt (decF f q)).size + (txt [x]).size := by rw [txt_len, txt_len]; simp; omega
      have mixed : Tryd.prog.follows .mixedOrders = true := by kernel_rfl
      clear hn hx ih hq hr hdl hb63
      go_enter Tryd.func24, Tryd.ntmps24
      go_wp2_with fail
      go_region_with (go_at_call 24; refine (HIh.out _).mono ?_; rintro e w2 ⟨rfl, hb⟩; first | (have HB2 := Lib.hid (Below.trans (Below.refl w.heap.size w).drew hb)) | (have HB2 := Lib.hid (byte_after hx256 hb).1; have k5 := (byte_after hx256 hb).2))
      all_goals
        go_wp2
        go_ret
        first
          | exact ⟨by rw [HD.out, ← txt_append]; rfl, HB2.out⟩
          | exact ⟨by rw [HD.out, ← txt_append]; rfl, HB2.out.alloc HB2.out.size _⟩
          | exact ⟨by rw [HD.out, ← txt_append]; rfl, HB2.out.drew⟩
theorem dec_same : ∀ (f g n : Nat), n < 10 ^ (f + 1) → f ≤ g → decF g n = decF f n
  | 0, 0, n, _, _ => rfl
  | 0, g + 1, n, h, _ => by
    have hn : n < 10 := by simpa using h
    rw [show decF (g + 1) n = if n < 10 then [48 + n] else decF g (n / 10) ++ [48 + n % 10] from rfl, if_pos hn]
    show _ = [48 + n % 10]
    rw [Nat.mod_eq_of_lt hn]
  | f + 1, g + 1, n, h, hfg => by
    rw [decF, decF]
    split
    · rfl
    · rw [dec_same f g (n / 10) (by rw [Nat.pow_succ] at h; omega) (by omega)]
theorem refDigits (n : Nat) (w : World) (hn : n ≤ 1099511627776) :
    Calls Tryd.prog 24 #[.int .i64 (n : Int)] w fun e w' => e = .returned (.string (txt (dec n))) ∧ Below w.heap.size w w' := by
  have h := refDigitsF 13 n w (by omega) (by decide)
  rw [← dec_same 13 20 n (by omega) (by decide)] at h
  exact h
end Go.Proofs.YtlgofepmdjlpgaaDoor
