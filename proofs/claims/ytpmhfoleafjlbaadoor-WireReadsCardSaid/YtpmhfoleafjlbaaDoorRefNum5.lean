/-
  The contract of the document's own Number of chapter 5: a number's bytes. The condition: a number below 2^63.
-/
import Derived.Test.YtpmhfoleafjlbaaDoorWireMath
import Derived.Test.YtpmhfoleafjlbaaDoorGrow
namespace Go.Proofs.YtpmhfoleafjlbaaDoor
open Go.RowKit TextNat

/-- One byte laid in memory, as a text. -/
theorem one_byte (w : World) (x : Nat) (hx : x < 256) :
    (convert 67 9 (.slice (some ⟨w.heap.size, 0, none⟩) 1 1)).run Tryd.prog (w.alloc (.cells #[.int .u8 (x : Int)] 5)) = .ok (.string (txt [x])) (w.alloc (.cells #[.int .u8 (x : Int)] 5)) := by
  have h := text_row (w.alloc (.cells #[.int .u8 (x : Int)] 5)) w.heap.size 1 [x] (by simpa using hx) (fun j hj => by
    simp at hj
    subst hj
    rw [World.cell?_alloc_at _ _ _ _ (by simp)]
    rfl)
  exact h

theorem txt_size_append (D E : List Nat) : ¬ 9223372036854775807 < (txt D).size + (txt E).size ↔ D.length + E.length ≤ 9223372036854775807 := by
  rw [txt_len, txt_len]; omega

set_option maxRecDepth 100000 in
set_option maxHeartbeats 4000000 in
theorem refNumber (n : Nat) (w : World) (hn : n < 9223372036854775808) :
    Calls Tryd.prog 42 #[.int .i64 (n : Int)] w fun e w' => e = .returned (.string (txt (WireMath.num n))) ∧ Below w.heap.size w w' := by
  have HL := Lib.hid (WireMath.num_len n)
  go_enter Tryd.func42, Tryd.ntmps42
  go_wp2
  go_loopg [0, 3] n (fun gh s0 s3 wx => s0 = .int .i64 (gh : Int) ∧ gh ≤ n ∧ (∃ D : ByteArray, s3 = .string D ∧ Hid (nats D ++ WireMath.num gh = WireMath.num n)) ∧ Below w.heap.size w wx)
  case atStart => exact ⟨rfl, Nat.le_refl _, ⟨⟨#[]⟩, rfl, Lib.hid rfl⟩, Below.refl _ _⟩
  case round =>
    obtain ⟨rfl, hk, ⟨D, rfl, hD⟩, hb⟩ := hrel
    have HB := Lib.hid hb
    clear hb
    have hDs : D.size ≤ 9 := by
      have h1 := congrArg List.length hD.out
      rw [List.length_append, nats_len] at h1
      have := HL.out
      omega
    by_cases h : 128 ≤ gk
    · have t1 : decide ((128 : Int) ≤ (gk : Int)) = true := decide_eq_true (by omega)
      have t1' : decide (128 ≤ gk) = true := decide_eq_true h
      obtain ⟨y, hy⟩ : ∃ y, y = gk % 128 := ⟨_, rfl⟩
      obtain ⟨q, hq⟩ : ∃ q, q = gk / 128 := ⟨_, rfl⟩
      obtain ⟨x, hx⟩ : ∃ x, x = y + 128 := ⟨_, rfl⟩
      have f1 : (gk : Int).tmod 128 = (y : Int) := by rw [Int.tmod_eq_emod_of_nonneg (by omega)]; omega
      have f2 : (gk : Int).tdiv 128 = (q : Int) := by rw [Int.tdiv_eq_ediv_of_nonneg (by omega)]; omega
      have f3 : IntKind.i64.wrap ((y : Int) + 128) = (y : Int) + 128 := by rw [IntKind.wrap_i64]; omega
      have f4 : IntKind.u8.wrap ((y : Int) + 128) = (x : Int) := by rw [IntKind.wrap_u8]; omega
      have f5 : IntKind.i64.wrap (q : Int) = (q : Int) := by rw [IntKind.wrap_i64]; omega
      have f6 := one_byte wr x (by omega)
      have f7 : ¬ 9223372036854775807 < D.size + (txt [x]).size := by rw [txt_len]; simp; omega
      have HN := Lib.hid (show nats (D ++ txt [x]) ++ WireMath.num q = WireMath.num n by
        rw [nats_append, nats_txt _ (by simp; omega), List.append_assoc, ← hD.out, WireMath.num_step gk h (by omega), hx, hy, hq]
        rfl)
      have hqn : q < gk := by omega
      clear hy hx hq hDs
      go_wp2
      go_roundg q
      case measure => exact hqn
      case rel => exact ⟨rfl, by omega, ⟨_, rfl, HN⟩, HB.out.alloc HB.out.size _⟩
    · have t1 : decide ((128 : Int) ≤ (gk : Int)) = false := decide_eq_false (by omega)
      have t1' : decide (128 ≤ gk) = false := decide_eq_false h
      have f4 : IntKind.u8.wrap (gk : Int) = (gk : Int) := by rw [IntKind.wrap_u8]; omega
      have f6 := one_byte wr gk (by omega)
      have f7 : ¬ 9223372036854775807 < D.size + (txt [gk]).size := by rw [txt_len]; simp; omega
      have HN := Lib.hid (show D ++ txt [gk] = txt (WireMath.num n) by
        rw [← hD.out, WireMath.num_small gk (by omega), ← txt_append, txt_nats])
      clear hDs
      go_wp2
      go_ret
      exact ⟨congrArg (fun x => Ending.returned (Value.string x)) HN.out, HB.out.alloc HB.out.size _⟩
end Go.Proofs.YtpmhfoleafjlbaaDoor
