/-
  Texts of one claim, merged.
  MacAt: The contract of mac's at: a byte of a text, 0 behind its end. No conditions but those typed.
  MacEqual: The contract of mac's Equal: of any two texts, are they alike; no new memory. The conditions: texts of fewer than 2^63 bytes.
  ErrRow: An error stays where a block of another make is stored into. No conditions but those typed.
-/
import Derived.Test.YtajhegjemhegiaaDoorPart02
import Derived.Outline
import Derived.BigQuiet
import Derived.Deep.RegionWith
import Derived.Test.YtajhegjemhegiaaDoorPart20
import Derived.Test.YtajhegjemhegiaaDoorPart07
namespace Go.Proofs.YtajhegjemhegiaaDoor
open Go.RowKit TextNat

/-- The byte of a text at i, 0 behind its end. -/
theorem at_any (s : ByteArray) (i : Nat) (w : World) :
    Calls Tryd.prog 38 #[.string s, .int .i64 (i : Int)] w fun e w' => e = .returned (.int .u8 ((nats s).getD i 0 : Nat)) ∧ w' = w := by
  by_cases h : i < s.size
  · have hz : (nats s).getD i 0 = (s[i]'h).toNat := by rw [List.getD_eq_getElem?_getD, nats_at s i h]; rfl
    have hx : ((s[i]'h).toNat : Int) = ((nats s).getD i 0 : Nat) := by rw [hz]
    have t1 : decide (i < s.size) = true := by simpa using h
    have t2 : decide ((i : Int) < (s.size : Int)) = true := by simpa using h
    go_enter Tryd.func38, Tryd.ntmps38
    go_wp2
    go_ret
    exact ⟨rfl, rfl⟩
  · have hz : (nats s).getD i 0 = 0 := by rw [List.getD_eq_getElem?_getD, List.getElem?_eq_none (by rw [nats_len]; omega)]; rfl
    have t1 : decide (i < s.size) = false := by simpa using h
    have t2 : decide ((i : Int) < (s.size : Int)) = false := by simpa using h
    rw [hz]
    go_enter Tryd.func38, Tryd.ntmps38
    go_wp2
    go_ret
    exact ⟨rfl, rfl⟩

end Go.Proofs.YtajhegjemhegiaaDoor
namespace Go.Proofs.YtajhegjemhegiaaDoor
open Go.RowKit TextNat

theorem ofInt_i64 (a : Nat) (ha : a < 9223372036854775808) : (BitVec.ofInt 64 (a : Int)).toNat = a := by
  rw [BitVec.ofInt_natCast, BitVec.toNat_ofNat]; exact Nat.mod_eq_of_lt (by omega)
theorem i64_or_nat (a b : Nat) (ha : a < 9223372036854775808) (hb : b < 9223372036854775808) : bits .or .i64 (a : Int) (b : Int) = ((a ||| b : Nat) : Int) := by
  have hx : a ||| b < 2 ^ 63 := Nat.or_lt_two_pow (by omega) (by omega)
  show IntKind.i64.wrap ((BitVec.ofInt 64 (a : Int) ||| BitVec.ofInt 64 (b : Int)).toNat : Int) = _
  rw [BitVec.toNat_or, ofInt_i64 a ha, ofInt_i64 b hb, IntKind.wrap_i64]
  omega
theorem i64_xor_nat (a b : Nat) (ha : a < 9223372036854775808) (hb : b < 9223372036854775808) : bits .xor .i64 (a : Int) (b : Int) = ((a ^^^ b : Nat) : Int) := by
  have hx : a ^^^ b < 2 ^ 63 := Nat.xor_lt_two_pow (by omega) (by omega)
  show IntKind.i64.wrap ((BitVec.ofInt 64 (a : Int) ^^^ BitVec.ofInt 64 (b : Int)).toNat : Int) = _
  rw [BitVec.toNat_xor, ofInt_i64 a ha, ofInt_i64 b hb, IntKind.wrap_i64]
  omega
theorem xor_zero (a b : Nat) : a ^^^ b = 0 ↔ a = b := by
  constructor
  · intro h
    have h2 : (a ^^^ b) ^^^ b = 0 ^^^ b := by rw [h]
    rw [Nat.xor_assoc, Nat.xor_self, Nat.xor_zero, Nat.zero_xor] at h2
    exact h2
  · rintro rfl
    exact Nat.xor_self a
theorem alike (a b : ByteArray) (M : Nat) (ha : a.size ≤ M) : (a.size = b.size ∧ ∀ j, j < M → (nats a).getD j 0 = (nats b).getD j 0) ↔ a = b := by
  constructor
  · rintro ⟨h1, h2⟩
    apply nats_inj
    apply List.ext_getElem (by rw [nats_len, nats_len, h1])
    intro i hi hj
    have := h2 i (by rw [nats_len] at hi; omega)
    rw [List.getD_eq_getElem?_getD, List.getD_eq_getElem?_getD, List.getElem?_eq_getElem hi, List.getElem?_eq_getElem hj] at this
    exact this
  · rintro rfl
    exact ⟨rfl, fun _ _ => rfl⟩
theorem nats_get_lt (s : ByteArray) (i : Nat) : (nats s).getD i 0 < 256 := by
  rw [List.getD_eq_getElem?_getD]
  cases hq : (nats s)[i]? with
  | none => simp
  | some z => simpa using nats_lt s z (List.mem_of_getElem? hq)

set_option maxRecDepth 100000 in
set_option maxHeartbeats 2000000 in
theorem equal_any (a b : ByteArray) (w : World) (ha : a.size ≤ 9223372036854775807) (hb : b.size ≤ 9223372036854775807) :
    Calls Tryd.prog 22 #[.string a, .string b] w fun e w' => e = .returned (.bool (decide (a = b))) ∧ w' = w := by
  obtain ⟨d0, hd0⟩ : ∃ d, d = a.size ^^^ b.size := ⟨_, rfl⟩
  have hd0l : d0 < 9223372036854775808 := by rw [hd0]; exact Nat.xor_lt_two_pow (n := 63) (by omega) (by omega)
  have e0 : bits .xor .i64 (a.size : Int) (b.size : Int) = (d0 : Int) := by rw [hd0]; exact i64_xor_nat _ _ (by omega) (by omega)
  have HD := Lib.hid hd0
  have HAT := Lib.hid at_any
  clear hd0
  rcases Nat.lt_or_ge a.size b.size with hlt | hge
  · have hlt' : (a.size : Int) < (b.size : Int) := by omega
    have hmx : a.size ≤ b.size := by omega
    go_enter Tryd.func22, Tryd.ntmps22
    go_wp2_with fail
    go_loopg [5, 17] b.size (fun gh s5 s17 wx => ∃ i d : Nat, i + gh = b.size ∧ s17 = .int .i64 (i : Int) ∧ s5 = .int .i64 (d : Int) ∧ d < 9223372036854775808 ∧ Hid (d = 0 ↔ (a.size = b.size ∧ ∀ j, j < i → (nats a).getD j 0 = (nats b).getD j 0)) ∧ wx = w)
    case atStart => exact ⟨0, d0, by omega, by go_num, rfl, hd0l, Lib.hid (by rw [HD.out, xor_zero]; simp), rfl⟩
    case round =>
      obtain ⟨i, d, hi, rfl, rfl, hdl, hd, rfl⟩ := hrel
      by_cases hiM : i < b.size
      · have t1 : decide (i < b.size) = true := decide_eq_true hiM
        have t2 : decide ((i : Int) < (b.size : Int)) = true := decide_eq_true (by omega)
        obtain ⟨x, hx⟩ : ∃ x, x = (nats a).getD i 0 := ⟨_, rfl⟩
        obtain ⟨y, hy⟩ : ∃ y, y = (nats b).getD i 0 := ⟨_, rfl⟩
        have hx8 : x < 256 := by rw [hx]; exact nats_get_lt a i
        have hy8 : y < 256 := by rw [hy]; exact nats_get_lt b i
        obtain ⟨u, hu⟩ : ∃ u, u = x ^^^ y := ⟨_, rfl⟩
        have hu8 : u < 256 := by rw [hu]; exact Nat.xor_lt_two_pow (n := 8) hx8 hy8
        obtain ⟨d', hd'⟩ : ∃ d', d' = d ||| u := ⟨_, rfl⟩
        have e1 : bits .xor .u8 (x : Int) (y : Int) = (u : Int) := by rw [hu]; exact u8_xor_nat x y hx8 hy8
        have e2 : IntKind.i64.wrap (u : Int) = (u : Int) := by rw [IntKind.wrap_i64]; omega
        have e3 : bits .or .i64 (d : Int) (u : Int) = (d' : Int) := by rw [hd']; exact i64_or_nat d u hdl (by omega)
        have hdl' : d' < 9223372036854775808 := by rw [hd']; exact Nat.or_lt_two_pow (n := 63) hdl (by omega)
        have HA := Lib.hid (at_any a i)
        have HB := Lib.hid (at_any b i)
        rw [← hx] at HA
        rw [← hy] at HB
        have HN := Lib.hid (show d' = 0 ↔ (a.size = b.size ∧ ∀ j, j < i + 1 → (nats a).getD j 0 = (nats b).getD j 0) by
          rw [hd', Nat.or_eq_zero_iff, hd.out, hu, xor_zero, hx, hy]
          constructor
          · rintro ⟨⟨h1, h2⟩, h3⟩
            refine ⟨h1, fun j hj => ?_⟩
            by_cases hji : j = i
            · rw [hji]; exact h3
            · exact h2 j (by omega)
          · rintro ⟨h1, h2⟩
            exact ⟨⟨h1, fun j hj => h2 j (by omega)⟩, h2 i (by omega)⟩)
        have hM0 : i < 9223372036854775807 := by omega
        clear hx hy hu hd' hd
        go_wp2_with (first
          | (go_at_call_of 38 a; refine (HA.out _).mono ?_; rintro e w2 ⟨rfl, rfl⟩)
          | (go_at_call_of 38 b; refine (HB.out _).mono ?_; rintro e w2 ⟨rfl, rfl⟩))
        go_roundg (b.size - (i + 1))
        case measure => omega
        case rel => exact ⟨i + 1, d', by omega, by go_num, rfl, hdl', HN, rfl⟩
      · obtain rfl : i = b.size := by omega
        have t1 : decide (b.size < b.size) = false := decide_eq_false (by omega)
        have HZ := Lib.hid (show (((d : Int) == 0) : Bool) = decide (a = b) by
          have h := hd.out.trans (alike a b b.size (by omega))
          rw [Bool.eq_iff_iff]
          simp only [beq_iff_eq, decide_eq_true_eq]
          rw [← h]
          omega)
        clear hd hiM
        go_wp2
        rw [HZ.out]
        go_ret
        exact ⟨rfl, rfl⟩
  · have hlt' : ¬ (a.size : Int) < (b.size : Int) := by omega
    have hmx : b.size ≤ a.size := by omega
    go_enter Tryd.func22, Tryd.ntmps22
    go_wp2_with fail
    go_loopg [5, 17] a.size (fun gh s5 s17 wx => ∃ i d : Nat, i + gh = a.size ∧ s17 = .int .i64 (i : Int) ∧ s5 = .int .i64 (d : Int) ∧ d < 9223372036854775808 ∧ Hid (d = 0 ↔ (a.size = b.size ∧ ∀ j, j < i → (nats a).getD j 0 = (nats b).getD j 0)) ∧ wx = w)
    case atStart => exact ⟨0, d0, by omega, by go_num, rfl, hd0l, Lib.hid (by rw [HD.out, xor_zero]; simp), rfl⟩
    case round =>
      obtain ⟨i, d, hi, rfl, rfl, hdl, hd, rfl⟩ := hrel
      by_cases hiM : i < a.size
      · have t1 : decide (i < a.size) = true := decide_eq_true hiM
        have t2 : decide ((i : Int) < (a.size : Int)) = true := decide_eq_true (by omega)
        obtain ⟨x, hx⟩ : ∃ x, x = (nats a).getD i 0 := ⟨_, rfl⟩
        obtain ⟨y, hy⟩ : ∃ y, y = (nats b).getD i 0 := ⟨_, rfl⟩
        have hx8 : x < 256 := by rw [hx]; exact nats_get_lt a i
        have hy8 : y < 256 := by rw [hy]; exact nats_get_lt b i
        obtain ⟨u, hu⟩ : ∃ u, u = x ^^^ y := ⟨_, rfl⟩
        have hu8 : u < 256 := by rw [hu]; exact Nat.xor_lt_two_pow (n := 8) hx8 hy8
        obtain ⟨d', hd'⟩ : ∃ d', d' = d ||| u := ⟨_, rfl⟩
        have e1 : bits .xor .u8 (x : Int) (y : Int) = (u : Int) := by rw [hu]; exact u8_xor_nat x y hx8 hy8
        have e2 : IntKind.i64.wrap (u : Int) = (u : Int) := by rw [IntKind.wrap_i64]; omega
        have e3 : bits .or .i64 (d : Int) (u : Int) = (d' : Int) := by rw [hd']; exact i64_or_nat d u hdl (by omega)
        have hdl' : d' < 9223372036854775808 := by rw [hd']; exact Nat.or_lt_two_pow (n := 63) hdl (by omega)
        have HA := Lib.hid (at_any a i)
        have HB := Lib.hid (at_any b i)
        rw [← hx] at HA
        rw [← hy] at HB
        have HN := Lib.hid (show d' = 0 ↔ (a.size = b.size ∧ ∀ j, j < i + 1 → (nats a).getD j 0 = (nats b).getD j 0) by
          rw [hd', Nat.or_eq_zero_iff, hd.out, hu, xor_zero, hx, hy]
          constructor
          · rintro ⟨⟨h1, h2⟩, h3⟩
            refine ⟨h1, fun j hj => ?_⟩
            by_cases hji : j = i
            · rw [hji]; exact h3
            · exact h2 j (by omega)
          · rintro ⟨h1, h2⟩
            exact ⟨⟨h1, fun j hj => h2 j (by omega)⟩, h2 i (by omega)⟩)
        have hM0 : i < 9223372036854775807 := by omega
        clear hx hy hu hd' hd
        go_wp2_with (first
          | (go_at_call_of 38 a; refine (HA.out _).mono ?_; rintro e w2 ⟨rfl, rfl⟩)
          | (go_at_call_of 38 b; refine (HB.out _).mono ?_; rintro e w2 ⟨rfl, rfl⟩))
        go_roundg (a.size - (i + 1))
        case measure => omega
        case rel => exact ⟨i + 1, d', by omega, by go_num, rfl, hdl', HN, rfl⟩
      · obtain rfl : i = a.size := by omega
        have t1 : decide (a.size < a.size) = false := decide_eq_false (by omega)
        have HZ := Lib.hid (show (((d : Int) == 0) : Bool) = decide (a = b) by
          have h := hd.out.trans (alike a b a.size (by omega))
          rw [Bool.eq_iff_iff]
          simp only [beq_iff_eq, decide_eq_true_eq]
          rw [← h]
          omega)
        clear hd hiM
        go_wp2
        rw [HZ.out]
        go_ret
        exact ⟨rfl, rfl⟩
end Go.Proofs.YtajhegjemhegiaaDoor
namespace Go.Proofs.YtajhegjemhegiaaDoor
open Go.RowKit

theorem below_at8 {B g : Nat} {a w : World} (h : Below B a w) (hg : B ≤ g) (j : Nat) (v : Value) : Below B a (w.setCell ⟨g, j, none⟩ v) :=
  ⟨h.os, h.tape, h.output, by have := h.size; simpa [World.setCell] using this, fun k hk => (Below.heap_setCell _ _ _ _ (by show k ≠ g; omega)).trans (h.block k hk)⟩
theorem chain_but_row {w w' : World} {b B B' : Nat} {l : List Value} {T : TypeId} {v0 : Value} {u1 : ByteArray} (hb : But b w w') (hrow : Row w b (v0 :: .string u1 :: l) T) (hB : B ≤ B') : ∀ {ws : List Wrap} {last v : Value}, Chain B w ws last v → Chain B' w' ws last v
  | [], _, _, h => h
  | _ :: _, _, _, ⟨q, u, h1, h2, h3, h4, h5, h6⟩ => by
    have hne : q ≠ b := fun e => by
      subst e
      have := hrow.cell (i := 1) rfl
      rw [h4] at this
      cases this
    exact ⟨q, u, h1, Nat.lt_of_lt_of_le h2 hB, (hb.cell (cell_lt h3) hne).trans h3, (hb.cell (cell_lt h4) hne).trans h4, (hb.cell (cell_lt h5) hne).trans h5, chain_but_row hb hrow hB h6⟩
theorem ErrIs.but_row {w w' : World} {b : Nat} {l : List Value} {T : TypeId} {v0 x : Value} {u1 : ByteArray} {c : Int} (h : ErrIs w c x) (hb : But b w w') (hrow : Row w b (v0 :: .string u1 :: l) T) : ErrIs w' c x := by
  obtain ⟨ws, h⟩ := h
  exact ⟨ws, chain_but_row hb hrow hb.size h⟩
end Go.Proofs.YtajhegjemhegiaaDoor
