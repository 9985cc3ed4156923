/-
  The contracts of the program's spell and trimmed of chapter 5: a number's bytes behind others; a vector without a nought at its end. The conditions: a row of at most 1,000,000 bytes.
-/
import Derived.Test.YtpmhfoleafjlbaaDoorWireGood
import Derived.Test.YtpmhfoleafjlbaaDoorInts
import Derived.Test.YtpmhfoleafjlbaaDoorGrow
namespace Go.Proofs.YtpmhfoleafjlbaaDoor
open Go.RowKit TextNat

theorem below_grown {base : Nat} {w0 w w' : World} {v : Value} {e : TypeId} {n : Nat} {xs : List Value} (h : OwnsM w base e v n xs) (hbs : base ≤ w0.heap.size) (hb : Below base w0 w) (hg : w.grownBy w' v.ownBlock) : Below base w0 w' :=
  hb.trans ⟨hg.os, hg.tape, hg.output, hg.size, fun k hk => hg.block k (Nat.lt_of_lt_of_le hk (Nat.le_trans hbs hb.size)) (fun e => by have := (h.lt k e.symm).1; omega)⟩

theorem and_or_byte (n : Nat) (hn : n < 9223372036854775808) : bits .or .i64 (bits .and .i64 (n : Int) 127) 128 = ((n % 128 + 128 : Nat) : Int) := by
  have h1 : (BitVec.ofInt 64 (n : Int)).toNat = n := by rw [BitVec.ofInt_natCast, BitVec.toNat_ofNat]; exact Nat.mod_eq_of_lt (by omega)
  have h2 : bits .and .i64 (n : Int) 127 = ((n % 128 : Nat) : Int) := by
    show IntKind.i64.wrap ((BitVec.ofInt 64 (n : Int) &&& BitVec.ofInt 64 127).toNat : Int) = _
    rw [BitVec.toNat_and, h1, show (BitVec.ofInt 64 127).toNat = 2 ^ 7 - 1 from rfl, Nat.and_two_pow_sub_one_eq_mod, IntKind.wrap_i64]
    omega
  obtain ⟨y, hy⟩ : ∃ y, y = n % 128 := ⟨_, rfl⟩
  have h3 : (BitVec.ofInt 64 (y : Int)).toNat = y := by rw [BitVec.ofInt_natCast, BitVec.toNat_ofNat]; exact Nat.mod_eq_of_lt (by omega)
  rw [h2, ← hy]
  show IntKind.i64.wrap ((BitVec.ofInt 64 (y : Int) ||| BitVec.ofInt 64 128).toNat : Int) = _
  rw [BitVec.toNat_or, h3, show (BitVec.ofInt 64 128).toNat = 2 ^ 7 * 1 from rfl, Nat.or_comm, ← Nat.two_pow_add_eq_or_of_lt (show y < 2 ^ 7 by omega), IntKind.wrap_i64]
  omega

set_option maxRecDepth 100000 in
set_option maxHeartbeats 4000000 in
theorem spell_ok (n : Nat) (base : Nat) (v : Value) (D : List Nat) (w : World) (h : OwnsM w base 5 v D.length (natVals .u8 D)) (hn : n < 9223372036854775808) (hb : base ≤ w.heap.size) (hl : D.length ≤ 1000000) :
    Calls Tryd.prog 43 #[v, .int .i64 (n : Int)] w fun e w' => ∃ v', e = .returned v' ∧ OwnsM w' base 5 v' (D ++ WireMath.num n).length (natVals .u8 (D ++ WireMath.num n)) ∧ Below base w w' := by
  obtain ⟨ib, hib, hb0, hb1, hb2⟩ := info_parts info_byte
  have HO := Lib.hid h
  have HLn := Lib.hid (WireMath.num_len n)
  clear h
  go_enter Tryd.func43, Tryd.ntmps43
  go_wp2
  go_loopg [0, 1] n (fun gh s0 s1 wx => s1 = .int .i64 (gh : Int) ∧ gh ≤ n ∧ (∃ E : List Nat, OwnsM wx base 5 s0 E.length (natVals .u8 E) ∧ Hid (E ++ WireMath.num gh = D ++ WireMath.num n)) ∧ Below base w wx)
  case atStart => exact ⟨rfl, Nat.le_refl _, ⟨D, HO.out, Lib.hid rfl⟩, Below.refl _ _⟩
  case round =>
    obtain ⟨rfl, hk, ⟨E, hown, hE⟩, hbl⟩ := hrel
    obtain ⟨p, c, rfl⟩ := hown.shape
    have HOw := Lib.hid hown
    have HB := Lib.hid hbl
    have hEl : E.length ≤ 1000010 := by
      have h1 := congrArg List.length hE.out
      rw [List.length_append, List.length_append] at h1
      have := HLn.out
      omega
    clear hown hbl
    obtain ⟨el, hel⟩ : ∃ el, el = E.length := ⟨_, rfl⟩
    have HEL := Lib.hid hel
    rw [← hel] at HOw hEl ⊢
    clear hel
    by_cases h : 128 ≤ gk
    · have t1 : decide ((128 : Int) ≤ (gk : Int)) = true := decide_eq_true (by omega)
      have t1' : decide (128 ≤ gk) = true := decide_eq_true h
      obtain ⟨q, hq⟩ : ∃ q, q = gk / 128 := ⟨_, rfl⟩
      obtain ⟨x, hx⟩ : ∃ x, x = gk % 128 + 128 := ⟨_, rfl⟩
      obtain ⟨a, ha⟩ : ∃ a, a = bits .and .i64 (gk : Int) 127 := ⟨_, rfl⟩
      have f1 : bits .or .i64 a 128 = (x : Int) := by rw [ha, hx]; exact and_or_byte gk (by omega)
      have f2 : bits .and .i64 (gk : Int) 127 = a := ha.symm
      have f4 : IntKind.u8.wrap (x : Int) = (x : Int) := by rw [IntKind.wrap_u8]; omega
      have f5 : (gk : Int) / 2 ^ 7 = (q : Int) := by rw [hq]; omega
      have f5b : (gk : Int) / 128 = (q : Int) := by rw [hq]; omega
      have HN := Lib.hid (show (E ++ [x]) ++ WireMath.num q = D ++ WireMath.num n by
        rw [← hE.out, WireMath.num_step gk h (by omega), hx, hq, List.append_assoc]
        rfl)
      have hqn : q < gk := by omega
      clear ha hx hq
      have HO1 := Lib.hid (HOw.out.alloc (.cells #[.int .u8 (x : Int)] 5))
      have HB1 := Lib.hid (HB.out.alloc (Nat.le_trans hb HB.out.size) (.cells #[.int .u8 (x : Int)] 5))
      have HBs := Lib.hid (Nat.le_trans hb HB1.out.size)
      go_wp2_with (at_builtin; refine wpList_append_m rfl _ _ 67 rfl base 5 ib (.int .u8 0) 1 Tryd.underlying67 hib hb0 hb1 hb2 rfl _ _ _ rfl HO1.out ⟨_, 0, none⟩ 1 1 [.int .u8 (x : Int)] rfl rfl (one_put _ _ _ _ (by simp)) (fun u hu => by simp at hu; subst hu; rfl) (by unfold maxLen; omega) (by omega) HBs.out ?_; intro v2 w2 hown2 hgrow2; have HO2 := Lib.hid hown2; have HB2 := Lib.hid (below_grown HO1.out hb HB1.out hgrow2); clear hown2 hgrow2)
      go_roundg q
      case measure => exact hqn
      case rel => exact ⟨rfl, by omega, ⟨E ++ [x], by rw [List.length_append, ← HEL.out, natVals_append]; exact HO2.out, HN⟩, HB2.out⟩
    · have t1 : decide ((128 : Int) ≤ (gk : Int)) = false := decide_eq_false (by omega)
      have t1' : decide (128 ≤ gk) = false := decide_eq_false h
      have f4 : IntKind.u8.wrap (gk : Int) = (gk : Int) := by rw [IntKind.wrap_u8]; omega
      have HO1 := Lib.hid (HOw.out.alloc (.cells #[.int .u8 (gk : Int)] 5))
      have HB1 := Lib.hid (HB.out.alloc (Nat.le_trans hb HB.out.size) (.cells #[.int .u8 (gk : Int)] 5))
      have HBs := Lib.hid (Nat.le_trans hb HB1.out.size)
      have HN := Lib.hid (show E ++ [gk] = D ++ WireMath.num n by
        rw [← hE.out, WireMath.num_small gk (by omega)])
      go_wp2_with (at_builtin; refine wpList_append_m rfl _ _ 67 rfl base 5 ib (.int .u8 0) 1 Tryd.underlying67 hib hb0 hb1 hb2 rfl _ _ _ rfl HO1.out ⟨_, 0, none⟩ 1 1 [.int .u8 (gk : Int)] rfl rfl (one_put _ _ _ _ (by simp)) (fun u hu => by simp at hu; subst hu; rfl) (by unfold maxLen; omega) (by omega) HBs.out ?_; intro v2 w2 hown2 hgrow2; have HO2 := Lib.hid hown2; have HB2 := Lib.hid (below_grown HO1.out hb HB1.out hgrow2); clear hown2 hgrow2)
      go_ret
      refine ⟨_, rfl, ?_, HB2.out⟩
      rw [← HN.out, List.length_append, ← HEL.out, natVals_append]
      exact HO2.out
end Go.Proofs.YtpmhfoleafjlbaaDoor
