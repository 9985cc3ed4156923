/-
  Texts of one claim, merged.
  WireSpell: The contracts of the program's spell and trimmed of chapter 5: a number's bytes behind others; a vector without a nought at its end. The conditions: a row of at most 1,000,000 bytes.
  WireOut: The contracts of the program's Out of chapter 5: put and refuse. The conditions: what came in lies in memory; texts of at most 200,000 bytes.
  WireTrimmed: The contract of the program's trimmed of chapter 5. The conditions: what came in lies in memory.
-/
import Derived.Test.YtajhegjemhegiaaDoorPart11
import Derived.Test.YtajhegjemhegiaaDoorPart12
import Derived.Test.YtajhegjemhegiaaDoorPart13
namespace Go.Proofs.YtajhegjemhegiaaDoor
open Go.RowKit TextNat

theorem below_grown {base : Nat} {w0 w w' : World} {v : Value} {e : TypeId} {n : Nat} {xs : List Value} (h : OwnsM w base e v n xs) (hbs : base ≤ w0.heap.size) (hb : Below base w0 w) (hg : w.grownBy w' v.ownBlock) : Below base w0 w' :=
  hb.trans ⟨hg.os, hg.tape, hg.output, hg.size, fun k hk => hg.block k (Nat.lt_of_lt_of_le hk (Nat.le_trans hbs hb.size)) (fun e => by have := (h.lt k e.symm).1; omega)⟩

theorem and_or_byte (n : Nat) (hn : n < 9223372036854775808) : bits .or .i64 (bits .and .i64 (n : Int) 127) 128 = ((n % 128 + 128 : Nat) : Int) := by
  have h1 : (BitVec.ofInt 64 (n : Int)).toNat = n := by rw [BitVec.ofInt_natCast, BitVec.toNat_ofNat]; exact Nat.mod_eq_of_lt (by omega)
  have h2 : bits .and .i64 (n : Int) 127 = ((n % 128 : Nat) : Int) := by
    show IntKind.i64.wrap ((BitVec.ofInt 64 (n : Int) &&& BitVec.ofInt 64 127).toNat : Int) = _
    rw [BitVec.toNat_and, h1, show (BitVec.ofInt 64 127).toNat = 2 ^ 7 - 1 from rfl, Nat.and_two_pow_sub_one_eq_mod, IntKind.wrap_i64]
    omega
  obtain ⟨y, hy⟩ : ∃ y, y = n % 128 := ⟨_, rfl⟩
  have h3 : (BitVec.ofInt 64 (y : Int)).toNat = y := by rw [BitVec.ofInt_natCast, BitVec.toNat_ofNat]; exact Nat.mod_eq_of_lt (by omega)
  rw [h2, ← hy]
  show IntKind.i64.wrap ((BitVec.ofInt 64 (y : Int) ||| BitVec.ofInt 64 128).toNat : Int) = _
  rw [BitVec.toNat_or, h3, show (BitVec.ofInt 64 128).toNat = 2 ^ 7 * 1 from rfl, Nat.or_comm, ← Nat.two_pow_add_eq_or_of_lt (show y < 2 ^ 7 by omega), IntKind.wrap_i64]
  omega

set_option maxRecDepth 100000 in
set_option maxHeartbeats 4000000 in
theorem spell_ok (n : Nat) (base : Nat) (v : Value) (D : List Nat) (w : World) (h : OwnsM w base 5 v D.length (natVals .u8 D)) (hn : n < 9223372036854775808) (hb : base ≤ w.heap.size) (hl : D.length ≤ 1000000) :
    Calls Tryd.prog 81 #[v, .int .i64 (n : Int)] w fun e w' => ∃ v', e = .returned v' ∧ OwnsM w' base 5 v' (D ++ WireMath.num n).length (natVals .u8 (D ++ WireMath.num n)) ∧ Below base w w' := by
  obtain ⟨ib, hib, hb0, hb1, hb2⟩ := info_parts info_byte
  have HO := Lib.hid h
  have HLn := Lib.hid (WireMath.num_len n)
  clear h
  go_enter Tryd.func81, Tryd.ntmps81
  go_wp2
  go_loopg [0, 1] n (fun gh s0 s1 wx => s1 = .int .i64 (gh : Int) ∧ gh ≤ n ∧ (∃ E : List Nat, OwnsM wx base 5 s0 E.length (natVals .u8 E) ∧ Hid (E ++ WireMath.num gh = D ++ WireMath.num n)) ∧ Below base w wx)
  case atStart => exact ⟨rfl, Nat.le_refl _, ⟨D, HO.out, Lib.hid rfl⟩, Below.refl _ _⟩
  case round =>
    obtain ⟨rfl, hk, ⟨E, hown, hE⟩, hbl⟩ := hrel
    obtain ⟨p, c, rfl⟩ := hown.shape
    have HOw := Lib.hid hown
    have HB := Lib.hid hbl
    have hEl : E.length ≤ 1000010 := by
      have h1 := congrArg List.length hE.out
      rw [List.length_append, List.length_append] at h1
      have := HLn.out
      omega
    clear hown hbl
    obtain ⟨el, hel⟩ : ∃ el, el = E.length := ⟨_, rfl⟩
    have HEL := Lib.hid hel
    rw [← hel] at HOw hEl ⊢
    clear hel
    by_cases h : 128 ≤ gk
    · have t1 : decide ((128 : Int) ≤ (gk : Int)) = true := decide_eq_true (by omega)
      have t1' : decide (128 ≤ gk) = true := decide_eq_true h
      obtain ⟨q, hq⟩ : ∃ q, q = gk / 128 := ⟨_, rfl⟩
      obtain ⟨x, hx⟩ : ∃ x, x = gk % 128 + 128 := ⟨_, rfl⟩
      obtain ⟨a, ha⟩ : ∃ a, a = bits .and .i64 (gk : Int) 127 := ⟨_, rfl⟩
      have f1 : bits .or .i64 a 128 = (x : Int) := by rw [ha, hx]; exact and_or_byte gk (by omega)
      have f2 : bits .and .i64 (gk : Int) 127 = a := ha.symm
      have f4 : IntKind.u8.wrap (x : Int) = (x : Int) := by rw [IntKind.wrap_u8]; omega
      have f5 : (gk : Int) / 2 ^ 7 = (q : Int) := by rw [hq]; omega
      have f5b : (gk : Int) / 128 = (q : Int) := by rw [hq]; omega
      have HN := Lib.hid (show (E ++ [x]) ++ WireMath.num q = D ++ WireMath.num n by
        rw [← hE.out, WireMath.num_step gk h (by omega), hx, hq, List.append_assoc]
        rfl)
      have hqn : q < gk := by omega
      clear ha hx hq
      have HO1 := Lib.hid (HOw.out.alloc (.cells #[.int .u8 (x : Int)] 5))
      have HB1 := Lib.hid (HB.out.alloc (Nat.le_trans hb HB.out.size) (.cells #[.int .u8 (x : Int)] 5))
      have HBs := Lib.hid (Nat.le_trans hb HB1.out.size)
      go_wp2_with (at_builtin; refine wpList_append_m rfl _ _ 43 rfl base 5 ib (.int .u8 0) 1 Tryd.underlying43 hib hb0 hb1 hb2 rfl _ _ _ rfl HO1.out ⟨_, 0, none⟩ 1 1 [.int .u8 (x : Int)] rfl rfl (one_put _ _ _ _ (by simp)) (fun u hu => by simp at hu; subst hu; rfl) (by unfold maxLen; omega) (by omega) HBs.out ?_; intro v2 w2 hown2 hgrow2; have HO2 := Lib.hid hown2; have HB2 := Lib.hid (below_grown HO1.out hb HB1.out hgrow2); clear hown2 hgrow2)
      go_roundg q
      case measure => exact hqn
      case rel => exact ⟨rfl, by omega, ⟨E ++ [x], by rw [List.length_append, ← HEL.out, natVals_append]; exact HO2.out, HN⟩, HB2.out⟩
    · have t1 : decide ((128 : Int) ≤ (gk : Int)) = false := decide_eq_false (by omega)
      have t1' : decide (128 ≤ gk) = false := decide_eq_false h
      have f4 : IntKind.u8.wrap (gk : Int) = (gk : Int) := by rw [IntKind.wrap_u8]; omega
      have HO1 := Lib.hid (HOw.out.alloc (.cells #[.int .u8 (gk : Int)] 5))
      have HB1 := Lib.hid (HB.out.alloc (Nat.le_trans hb HB.out.size) (.cells #[.int .u8 (gk : Int)] 5))
      have HBs := Lib.hid (Nat.le_trans hb HB1.out.size)
      have HN := Lib.hid (show E ++ [gk] = D ++ WireMath.num n by
        rw [← hE.out, WireMath.num_small gk (by omega)])
      go_wp2_with (at_builtin; refine wpList_append_m rfl _ _ 43 rfl base 5 ib (.int .u8 0) 1 Tryd.underlying43 hib hb0 hb1 hb2 rfl _ _ _ rfl HO1.out ⟨_, 0, none⟩ 1 1 [.int .u8 (gk : Int)] rfl rfl (one_put _ _ _ _ (by simp)) (fun u hu => by simp at hu; subst hu; rfl) (by unfold maxLen; omega) (by omega) HBs.out ?_; intro v2 w2 hown2 hgrow2; have HO2 := Lib.hid hown2; have HB2 := Lib.hid (below_grown HO1.out hb HB1.out hgrow2); clear hown2 hgrow2)
      go_ret
      refine ⟨_, rfl, ?_, HB2.out⟩
      rw [← HN.out, List.length_append, ← HEL.out, natVals_append]
      exact HO2.out
end Go.Proofs.YtajhegjemhegiaaDoor
namespace Go.Proofs.YtajhegjemhegiaaDoor
open Go.RowKit TextNat

/-- The things that were put, the last one first; none lies in block pb. -/
def Things (pb : Nat) (w : World) : List (List Nat) → Option Addr → Prop
  | [], p => p = none
  | b :: r, p => ∃ q a, p = some ⟨q, 0, none⟩ ∧ 0 < b.length ∧ q ≠ pb ∧ w.cell? ⟨q, 0, none⟩ = some (.pointer a) ∧ w.cell? ⟨q, 1, none⟩ = some (.string (txt b)) ∧ Things pb w r a
theorem Things.but {pb : Nat} {w w' : World} (hb : But pb w w') : ∀ {l : List (List Nat)} {p : Option Addr}, Things pb w l p → Things pb w' l p
  | [], _, h => h
  | _ :: _, _, ⟨q, a, h1, h0, h2, h3, h4, h5⟩ => ⟨q, a, h1, h0, h2, (hb.cell (cell_lt h3) h2).trans h3, (hb.cell (cell_lt h4) h2).trans h4, Things.but hb h5⟩
def faultCode : Option (Nat × Nat) → Nat
  | none => 0
  | some (c, _) => c
/-- What an Out holds. -/
structure OutAt (w : World) (pb : Nat) (p : WireMath.Put) : Prop where
  last : ∃ l a, Things pb w l a ∧ l.reverse.flatten = p.out ∧ w.cell? ⟨pb, 0, none⟩ = some (.pointer a)
  size : w.cell? ⟨pb, 1, none⟩ = some (.int .i64 (p.out.length : Int))
  fault : w.cell? ⟨pb, 2, none⟩ = some (.int .i64 (faultCode p.bad : Int))
  free0 : w.frozen? ⟨pb, 0, none⟩ = false
  free1 : w.frozen? ⟨pb, 1, none⟩ = false
  free2 : w.frozen? ⟨pb, 2, none⟩ = false
  bytes : ∀ b ∈ p.out, b < 256
  long : p.out.length ≤ 65536
  bad : ∀ c k, p.bad = some (c, k) → k = p.out.length ∧ (c = 1 ∨ c = 3)
theorem OutAt.lt {w : World} {pb : Nat} {p : WireMath.Put} (h : OutAt w pb p) : pb < w.heap.size := cell_lt h.size
/-- Where another block alone is written. -/
theorem OutAt.below {w w' : World} {pb : Nat} {p : WireMath.Put} (h : OutAt w pb p) (hb : Below w.heap.size w w') : OutAt w' pb p := by
  obtain ⟨l, a, h1, h2, h3⟩ := h.last
  exact ⟨⟨l, a, h1.but (But.of hb), h2, (hb.cell (p := ⟨pb, 0, none⟩) h.lt).trans h3⟩, (hb.cell (p := ⟨pb, 1, none⟩) h.lt).trans h.size, (hb.cell (p := ⟨pb, 2, none⟩) h.lt).trans h.fault, (hb.frozen (p := ⟨pb, 0, none⟩) h.lt).trans h.free0, (hb.frozen (p := ⟨pb, 1, none⟩) h.lt).trans h.free1, (hb.frozen (p := ⟨pb, 2, none⟩) h.lt).trans h.free2, h.bytes, h.long, h.bad⟩
/-- The first fault is noted. -/
def fail_ (p : WireMath.Put) (c : Nat) : WireMath.Put := match p.bad with
  | some _ => p
  | none => ⟨p.out, some (c, p.out.length)⟩
theorem OutAt.refused {w : World} {pb c : Nat} {p : WireMath.Put} (h : OutAt w pb p) (hc : c = 1 ∨ c = 3) (hb : p.bad = none) : OutAt (w.setCell ⟨pb, 2, none⟩ (.int .i64 (c : Int))) pb (fail_ p c) := by
  obtain ⟨l, a, h1, h2, h3⟩ := h.last
  unfold fail_
  rw [hb]
  exact ⟨⟨l, a, h1.but (But.set pb 2 w _), h2, (World.cell?_setCell_other _ ⟨pb, 2, none⟩ ⟨pb, 0, none⟩ _ (by simp)).trans h3⟩, (World.cell?_setCell_other _ ⟨pb, 2, none⟩ ⟨pb, 1, none⟩ _ (by simp)).trans h.size, World.cell?_setCell_same _ _ _ h.fault, by rw [World.frozen?_setCell]; exact h.free0, by rw [World.frozen?_setCell]; exact h.free1, by rw [World.frozen?_setCell]; exact h.free2, h.bytes, h.long, fun c' k e => by cases e; exact ⟨rfl, hc⟩⟩

set_option maxRecDepth 100000 in
theorem refuse_ok (pb c : Nat) (p : WireMath.Put) (w : World) (h : OutAt w pb p) (hc : c = 1 ∨ c = 3) :
    Calls Tryd.prog 67 #[.pointer (some ⟨pb, 0, none⟩), .int .i64 (c : Int)] w fun e w' => e = .returned (.tuple #[]) ∧ OutAt w' pb (fail_ p c) ∧ But pb w w' := by
  have c2 := h.fault
  have g2 := h.free2
  have HO := Lib.hid h
  cases hb : p.bad with
  | none =>
    rw [hb] at c2
    have c2' : w.cell? ⟨pb, 2, none⟩ = some (.int .i64 0) := c2
    have HR := Lib.hid (h.refused hc hb)
    clear h c2 hb
    go_enter Tryd.func67, Tryd.ntmps67
    go_wp2
    go_end0
    exact ⟨rfl, HR.out, But.set pb 2 w _⟩
  | some q =>
    obtain ⟨d, k⟩ := q
    rw [hb] at c2
    have c2' : w.cell? ⟨pb, 2, none⟩ = some (.int .i64 (d : Int)) := c2
    have t1 : ((d : Int) == 0) = false := by rw [beq_eq_false_iff_ne]; have := (h.bad d k hb).2; omega
    have t1' : (d == 0) = false := by rw [beq_eq_false_iff_ne]; have := (h.bad d k hb).2; omega
    have HR := Lib.hid (show fail_ p c = p by unfold fail_; rw [hb])
    clear h c2 hb
    go_enter Tryd.func67, Tryd.ntmps67
    go_wp2
    go_end0
    rw [HR.out]
    exact ⟨rfl, HO.out, But.refl _ _⟩
end Go.Proofs.YtajhegjemhegiaaDoor
namespace Go.Proofs.YtajhegjemhegiaaDoor
open Go.RowKit TextNat

/-- No nought at its end. -/
def whole_ (zs : List Int) : Bool := !(zs.getLast? == some 0)
set_option maxRecDepth 100000 in
theorem trimmed_ok (pp : Option Addr) (cap : Nat) (zs : List Int) (w : World) (hz : Ints w pp zs) (hl : zs.length ≤ 9223372036854775807) :
    Calls Tryd.prog 66 #[.slice pp zs.length cap] w fun e w' => e = .returned (.bool (whole_ zs)) ∧ w' = w := by
  obtain ⟨N, hN⟩ : ∃ N, N = zs.length := ⟨_, rfl⟩
  rw [← hN]
  by_cases h0 : N = 0
  · obtain rfl : zs = [] := List.length_eq_zero_iff.1 (hN.symm.trans h0)
    have t1 : ((N : Int) == 0) = true := by rw [beq_iff_eq]; omega
    have t1' : (N == 0) = true := by rw [beq_iff_eq]; omega
    clear hN
    go_enter Tryd.func66, Tryd.ntmps66
    go_wp2
    go_ret
    exact ⟨rfl, rfl⟩
  · obtain ⟨z, hzz⟩ : ∃ z, zs[N - 1]? = some z := ⟨_, List.getElem?_eq_getElem (by omega)⟩
    obtain ⟨hr, b, off, rfl, hc⟩ := hz _ _ hzz
    have t1 : ((N : Int) == 0) = false := by rw [beq_eq_false_iff_ne]; omega
    have t1' : (N == 0) = false := by rw [beq_eq_false_iff_ne]; omega
    have HR := Lib.hid (show whole_ zs = !(z == 0) by
      unfold whole_
      rw [List.getLast?_eq_getElem?, ← hN, hzz]
      rfl)
    have i0 : (0 : Int) ≤ (N : Int) - 1 := by omega
    have i1 : (N : Int) - 1 < (N : Int) := by omega
    have i2 : ((N : Int) - 1).toNat = N - 1 := by omega
    have i3 : IntKind.i64.wrap ((N : Int) - 1) = (N : Int) - 1 := by rw [IntKind.wrap_i64]; omega
    clear hzz hz hN
    go_enter Tryd.func66, Tryd.ntmps66
    go_wp2
    go_ret
    rw [HR.out]
    exact ⟨rfl, rfl⟩
end Go.Proofs.YtajhegjemhegiaaDoor
