/-
  Texts of one claim, merged.
  WireSpell: The contracts of the program's spell and trimmed of chapter 5: a number's bytes behind others; a vector without a nought at its end. The conditions: a row of at most 1,000,000 bytes.
  WireOut: The contracts of the program's Out of chapter 5: put and refuse. The conditions: what came in lies in memory; texts of at most 200,000 bytes.
  WirePutOk: The contract of the program's put of chapter 5. The conditions: the numbers' cells; 1 to 17 numbers; a text of at most 200,000 bytes.
  Mark2: Append onto a row of one's own of what lies in a slice of another slice type, nil allowed, for any program. No conditions but those typed.
  WireOuts: The contracts of the program's Num, Text, Flag, Vec of an Out of chapter 5. The conditions: texts of at most 200,000 bytes; vectors' cells.
  WireDone: The contract of the program's Done of an Out of chapter 5: all bytes, or the first fault with its place. No conditions but that the Out holds what it is said to.
  FrameRow: A row of bytes that []byte(s) made: its cells, a store into it, as a text. No conditions but those typed.
  FrameOpenMath: Plain mathematics of chapter 9: reading pairs of letters one by one, and what stands at a place said by what was read. No program, no conditions but those typed.
-/
import Derived.Test.YtajkldmpllphjaaDoorPart04
import Derived.Test.YtajkldmpllphjaaDoorPart03
import Derived.Test.YtajkldmpllphjaaDoorPart01
import Derived.Deep.OwnRows
namespace Go.Proofs.YtajkldmpllphjaaDoor
open Go.RowKit TextNat

theorem below_grown {base : Nat} {w0 w w' : World} {v : Value} {e : TypeId} {n : Nat} {xs : List Value} (h : OwnsM w base e v n xs) (hbs : base ≤ w0.heap.size) (hb : Below base w0 w) (hg : w.grownBy w' v.ownBlock) : Below base w0 w' :=
  hb.trans ⟨hg.os, hg.tape, hg.output, hg.size, fun k hk => hg.block k (Nat.lt_of_lt_of_le hk (Nat.le_trans hbs hb.size)) (fun e => by have := (h.lt k e.symm).1; omega)⟩

theorem and_or_byte (n : Nat) (hn : n < 9223372036854775808) : bits .or .i64 (bits .and .i64 (n : Int) 127) 128 = ((n % 128 + 128 : Nat) : Int) := by
  have h1 : (BitVec.ofInt 64 (n : Int)).toNat = n := by rw [BitVec.ofInt_natCast, BitVec.toNat_ofNat]; exact Nat.mod_eq_of_lt (by omega)
  have h2 : bits .and .i64 (n : Int) 127 = ((n % 128 : Nat) : Int) := by
    show IntKind.i64.wrap ((BitVec.ofInt 64 (n : Int) &&& BitVec.ofInt 64 127).toNat : Int) = _
    rw [BitVec.toNat_and, h1, show (BitVec.ofInt 64 127).toNat = 2 ^ 7 - 1 from rfl, Nat.and_two_pow_sub_one_eq_mod, IntKind.wrap_i64]
    omega
  obtain ⟨y, hy⟩ : ∃ y, y = n % 128 := ⟨_, rfl⟩
  have h3 : (BitVec.ofInt 64 (y : Int)).toNat = y := by rw [BitVec.ofInt_natCast, BitVec.toNat_ofNat]; exact Nat.mod_eq_of_lt (by omega)
  rw [h2, ← hy]
  show IntKind.i64.wrap ((BitVec.ofInt 64 (y : Int) ||| BitVec.ofInt 64 128).toNat : Int) = _
  rw [BitVec.toNat_or, h3, show (BitVec.ofInt 64 128).toNat = 2 ^ 7 * 1 from rfl, Nat.or_comm, ← Nat.two_pow_add_eq_or_of_lt (show y < 2 ^ 7 by omega), IntKind.wrap_i64]
  omega

set_option maxRecDepth 100000 in
set_option maxHeartbeats 4000000 in
theorem spell_ok (n : Nat) (base : Nat) (v : Value) (D : List Nat) (w : World) (h : OwnsM w base 5 v D.length (natVals .u8 D)) (hn : n < 9223372036854775808) (hb : base ≤ w.heap.size) (hl : D.length ≤ 1000000) :
    Calls Tryd.prog 74 #[v, .int .i64 (n : Int)] w fun e w' => ∃ v', e = .returned v' ∧ OwnsM w' base 5 v' (D ++ WireMath.num n).length (natVals .u8 (D ++ WireMath.num n)) ∧ Below base w w' := by
  obtain ⟨ib, hib, hb0, hb1, hb2⟩ := info_parts info_byte
  have HO := Lib.hid h
  have HLn := Lib.hid (WireMath.num_len n)
  clear h
  go_enter Tryd.func74, Tryd.ntmps74
  go_wp2
  go_loopg [0, 1] n (fun gh s0 s1 wx => s1 = .int .i64 (gh : Int) ∧ gh ≤ n ∧ (∃ E : List Nat, OwnsM wx base 5 s0 E.length (natVals .u8 E) ∧ Hid (E ++ WireMath.num gh = D ++ WireMath.num n)) ∧ Below base w wx)
  case atStart => exact ⟨rfl, Nat.le_refl _, ⟨D, HO.out, Lib.hid rfl⟩, Below.refl _ _⟩
  case round =>
    obtain ⟨rfl, hk, ⟨E, hown, hE⟩, hbl⟩ := hrel
    obtain ⟨p, c, rfl⟩ := hown.shape
    have HOw := Lib.hid hown
    have HB := Lib.hid hbl
    have hEl : E.length ≤ 1000010 := by
      have h1 := congrArg List.length hE.out
      rw [List.length_append, List.length_append] at h1
      have := HLn.out
      omega
    clear hown hbl
    obtain ⟨el, hel⟩ : ∃ el, el = E.length := ⟨_, rfl⟩
    have HEL := Lib.hid hel
    rw [← hel] at HOw hEl ⊢
    clear hel
    by_cases h : 128 ≤ gk
    · have t1 : decide ((128 : Int) ≤ (gk : Int)) = true := decide_eq_true (by omega)
      have t1' : decide (128 ≤ gk) = true := decide_eq_true h
      obtain ⟨q, hq⟩ : ∃ q, q = gk / 128 := ⟨_, rfl⟩
      obtain ⟨x, hx⟩ : ∃ x, x = gk % 128 + 128 := ⟨_, rfl⟩
      obtain ⟨a, ha⟩ : ∃ a, a = bits .and .i64 (gk : Int) 127 := ⟨_, rfl⟩
      have f1 : bits .or .i64 a 128 = (x : Int) := by rw [ha, hx]; exact and_or_byte gk (by omega)
      have f2 : bits .and .i64 (gk : Int) 127 = a := ha.symm
      have f4 : IntKind.u8.wrap (x : Int) = (x : Int) := by rw [IntKind.wrap_u8]; omega
      have f5 : (gk : Int) / 2 ^ 7 = (q : Int) := by rw [hq]; omega
      have f5b : (gk : Int) / 128 = (q : Int) := by rw [hq]; omega
      have HN := Lib.hid (show (E ++ [x]) ++ WireMath.num q = D ++ WireMath.num n by
        rw [← hE.out, WireMath.num_step gk h (by omega), hx, hq, List.append_assoc]
        rfl)
      have hqn : q < gk := by omega
      clear ha hx hq
      have HO1 := Lib.hid (HOw.out.alloc (.cells #[.int .u8 (x : Int)] 5))
      have HB1 := Lib.hid (HB.out.alloc (Nat.le_trans hb HB.out.size) (.cells #[.int .u8 (x : Int)] 5))
      have HBs := Lib.hid (Nat.le_trans hb HB1.out.size)
      go_wp2_with (at_builtin; refine wpList_append_m rfl _ _ 54 rfl base 5 ib (.int .u8 0) 1 Tryd.underlying54 hib hb0 hb1 hb2 rfl _ _ _ rfl HO1.out ⟨_, 0, none⟩ 1 1 [.int .u8 (x : Int)] rfl rfl (one_put _ _ _ _ (by simp)) (fun u hu => by simp at hu; subst hu; rfl) (by unfold maxLen; omega) (by omega) HBs.out ?_; intro v2 w2 hown2 hgrow2; have HO2 := Lib.hid hown2; have HB2 := Lib.hid (below_grown HO1.out hb HB1.out hgrow2); clear hown2 hgrow2)
      go_roundg q
      case measure => exact hqn
      case rel => exact ⟨rfl, by omega, ⟨E ++ [x], by rw [List.length_append, ← HEL.out, natVals_append]; exact HO2.out, HN⟩, HB2.out⟩
    · have t1 : decide ((128 : Int) ≤ (gk : Int)) = false := decide_eq_false (by omega)
      have t1' : decide (128 ≤ gk) = false := decide_eq_false h
      have f4 : IntKind.u8.wrap (gk : Int) = (gk : Int) := by rw [IntKind.wrap_u8]; omega
      have HO1 := Lib.hid (HOw.out.alloc (.cells #[.int .u8 (gk : Int)] 5))
      have HB1 := Lib.hid (HB.out.alloc (Nat.le_trans hb HB.out.size) (.cells #[.int .u8 (gk : Int)] 5))
      have HBs := Lib.hid (Nat.le_trans hb HB1.out.size)
      have HN := Lib.hid (show E ++ [gk] = D ++ WireMath.num n by
        rw [← hE.out, WireMath.num_small gk (by omega)])
      go_wp2_with (at_builtin; refine wpList_append_m rfl _ _ 54 rfl base 5 ib (.int .u8 0) 1 Tryd.underlying54 hib hb0 hb1 hb2 rfl _ _ _ rfl HO1.out ⟨_, 0, none⟩ 1 1 [.int .u8 (gk : Int)] rfl rfl (one_put _ _ _ _ (by simp)) (fun u hu => by simp at hu; subst hu; rfl) (by unfold maxLen; omega) (by omega) HBs.out ?_; intro v2 w2 hown2 hgrow2; have HO2 := Lib.hid hown2; have HB2 := Lib.hid (below_grown HO1.out hb HB1.out hgrow2); clear hown2 hgrow2)
      go_ret
      refine ⟨_, rfl, ?_, HB2.out⟩
      rw [← HN.out, List.length_append, ← HEL.out, natVals_append]
      exact HO2.out
end Go.Proofs.YtajkldmpllphjaaDoor
namespace Go.Proofs.YtajkldmpllphjaaDoor
open Go.RowKit TextNat

/-- The things that were put, the last one first; none lies in block pb. -/
def Things (pb : Nat) (w : World) : List (List Nat) → Option Addr → Prop
  | [], p => p = none
  | b :: r, p => ∃ q a, p = some ⟨q, 0, none⟩ ∧ 0 < b.length ∧ q ≠ pb ∧ w.cell? ⟨q, 0, none⟩ = some (.pointer a) ∧ w.cell? ⟨q, 1, none⟩ = some (.string (txt b)) ∧ Things pb w r a
theorem Things.but {pb : Nat} {w w' : World} (hb : But pb w w') : ∀ {l : List (List Nat)} {p : Option Addr}, Things pb w l p → Things pb w' l p
  | [], _, h => h
  | _ :: _, _, ⟨q, a, h1, h0, h2, h3, h4, h5⟩ => ⟨q, a, h1, h0, h2, (hb.cell (cell_lt h3) h2).trans h3, (hb.cell (cell_lt h4) h2).trans h4, Things.but hb h5⟩
def faultCode : Option (Nat × Nat) → Nat
  | none => 0
  | some (c, _) => c
/-- What an Out holds. -/
structure OutAt (w : World) (pb : Nat) (p : WireMath.Put) : Prop where
  last : ∃ l a, Things pb w l a ∧ l.reverse.flatten = p.out ∧ w.cell? ⟨pb, 0, none⟩ = some (.pointer a)
  size : w.cell? ⟨pb, 1, none⟩ = some (.int .i64 (p.out.length : Int))
  fault : w.cell? ⟨pb, 2, none⟩ = some (.int .i64 (faultCode p.bad : Int))
  free0 : w.frozen? ⟨pb, 0, none⟩ = false
  free1 : w.frozen? ⟨pb, 1, none⟩ = false
  free2 : w.frozen? ⟨pb, 2, none⟩ = false
  bytes : ∀ b ∈ p.out, b < 256
  long : p.out.length ≤ 65536
  bad : ∀ c k, p.bad = some (c, k) → k = p.out.length ∧ (c = 1 ∨ c = 3)
theorem OutAt.lt {w : World} {pb : Nat} {p : WireMath.Put} (h : OutAt w pb p) : pb < w.heap.size := cell_lt h.size
/-- Where another block alone is written. -/
theorem OutAt.below {w w' : World} {pb : Nat} {p : WireMath.Put} (h : OutAt w pb p) (hb : Below w.heap.size w w') : OutAt w' pb p := by
  obtain ⟨l, a, h1, h2, h3⟩ := h.last
  exact ⟨⟨l, a, h1.but (But.of hb), h2, (hb.cell (p := ⟨pb, 0, none⟩) h.lt).trans h3⟩, (hb.cell (p := ⟨pb, 1, none⟩) h.lt).trans h.size, (hb.cell (p := ⟨pb, 2, none⟩) h.lt).trans h.fault, (hb.frozen (p := ⟨pb, 0, none⟩) h.lt).trans h.free0, (hb.frozen (p := ⟨pb, 1, none⟩) h.lt).trans h.free1, (hb.frozen (p := ⟨pb, 2, none⟩) h.lt).trans h.free2, h.bytes, h.long, h.bad⟩
/-- The first fault is noted. -/
def fail_ (p : WireMath.Put) (c : Nat) : WireMath.Put := match p.bad with
  | some _ => p
  | none => ⟨p.out, some (c, p.out.length)⟩
theorem OutAt.refused {w : World} {pb c : Nat} {p : WireMath.Put} (h : OutAt w pb p) (hc : c = 1 ∨ c = 3) (hb : p.bad = none) : OutAt (w.setCell ⟨pb, 2, none⟩ (.int .i64 (c : Int))) pb (fail_ p c) := by
  obtain ⟨l, a, h1, h2, h3⟩ := h.last
  unfold fail_
  rw [hb]
  exact ⟨⟨l, a, h1.but (But.set pb 2 w _), h2, (World.cell?_setCell_other _ ⟨pb, 2, none⟩ ⟨pb, 0, none⟩ _ (by simp)).trans h3⟩, (World.cell?_setCell_other _ ⟨pb, 2, none⟩ ⟨pb, 1, none⟩ _ (by simp)).trans h.size, World.cell?_setCell_same _ _ _ h.fault, by rw [World.frozen?_setCell]; exact h.free0, by rw [World.frozen?_setCell]; exact h.free1, by rw [World.frozen?_setCell]; exact h.free2, h.bytes, h.long, fun c' k e => by cases e; exact ⟨rfl, hc⟩⟩

set_option maxRecDepth 100000 in
theorem refuse_ok (pb c : Nat) (p : WireMath.Put) (w : World) (h : OutAt w pb p) (hc : c = 1 ∨ c = 3) :
    Calls Tryd.prog 73 #[.pointer (some ⟨pb, 0, none⟩), .int .i64 (c : Int)] w fun e w' => e = .returned (.tuple #[]) ∧ OutAt w' pb (fail_ p c) ∧ But pb w w' := by
  have c2 := h.fault
  have g2 := h.free2
  have HO := Lib.hid h
  cases hb : p.bad with
  | none =>
    rw [hb] at c2
    have c2' : w.cell? ⟨pb, 2, none⟩ = some (.int .i64 0) := c2
    have HR := Lib.hid (h.refused hc hb)
    clear h c2 hb
    go_enter Tryd.func73, Tryd.ntmps73
    go_wp2
    go_end0
    exact ⟨rfl, HR.out, But.set pb 2 w _⟩
  | some q =>
    obtain ⟨d, k⟩ := q
    rw [hb] at c2
    have c2' : w.cell? ⟨pb, 2, none⟩ = some (.int .i64 (d : Int)) := c2
    have t1 : ((d : Int) == 0) = false := by rw [beq_eq_false_iff_ne]; have := (h.bad d k hb).2; omega
    have t1' : (d == 0) = false := by rw [beq_eq_false_iff_ne]; have := (h.bad d k hb).2; omega
    have HR := Lib.hid (show fail_ p c = p by unfold fail_; rw [hb])
    clear h c2 hb
    go_enter Tryd.func73, Tryd.ntmps73
    go_wp2
    go_end0
    rw [HR.out]
    exact ⟨rfl, HO.out, But.refl _ _⟩
end Go.Proofs.YtajkldmpllphjaaDoor
namespace Go.Proofs.YtajkldmpllphjaaDoor
open Go.RowKit TextNat

theorem OutAt.drew {w : World} {pb : Nat} {p : WireMath.Put} (h : OutAt w pb p) : OutAt w.drew pb p := h.below (Below.refl _ _).drew
/-- A thing more. -/
theorem OutAt.more {w : World} {pb : Nat} {p : WireMath.Put} {b : List Nat} {T : TypeId} {a : Option Addr} (h : OutAt w pb p) (ha : w.cell? ⟨pb, 0, none⟩ = some (.pointer a)) (hb : p.bad = none) (hb0 : 0 < b.length) (hl : ¬ 65536 < p.out.length + b.length) (hby : ∀ x ∈ b, x < 256) :
    OutAt (((w.alloc (.cells #[.pointer a, .string (txt b)] T)).setCell ⟨pb, 0, none⟩ (.pointer (some ⟨w.heap.size, 0, none⟩))).setCell ⟨pb, 1, none⟩ (.int .i64 ((p.out.length + b.length : Nat) : Int))) pb ⟨p.out ++ b, none⟩ := by
  have hp := h.lt
  obtain ⟨l, a', h1, h2, h3⟩ := h.last
  obtain rfl : a = a' := by rw [ha] at h3; simpa using h3
  have hA : But pb w (w.alloc (.cells #[.pointer a, .string (txt b)] T)) := (But.refl pb w).alloc _
  obtain ⟨W1, hW1⟩ : ∃ W1, W1 = w.alloc (.cells #[.pointer a, .string (txt b)] T) := ⟨_, rfl⟩
  have k0 : W1.cell? ⟨w.heap.size, 0, none⟩ = some (.pointer a) := by rw [hW1]; simp
  have k1 : W1.cell? ⟨w.heap.size, 1, none⟩ = some (.string (txt b)) := by rw [hW1]; simp
  have hB1 : Below w.heap.size w W1 := by rw [hW1]; exact (Below.refl _ _).alloc (Nat.le_refl _) _
  have h' := h.below hB1
  rw [← hW1]
  have hA1 : But pb w W1 := by rw [hW1]; exact hA
  have t1 : Things pb W1 (b :: l) (some ⟨w.heap.size, 0, none⟩) := ⟨w.heap.size, a, rfl, hb0, by omega, k0, k1, h1.but hA1⟩
  have hS : But pb W1 ((W1.setCell ⟨pb, 0, none⟩ (.pointer (some ⟨w.heap.size, 0, none⟩))).setCell ⟨pb, 1, none⟩ (.int .i64 ((p.out.length + b.length : Nat) : Int))) := (But.set pb 0 W1 _).trans (But.set pb 1 _ _)
  refine ⟨⟨b :: l, some ⟨w.heap.size, 0, none⟩, t1.but hS, ?_, ?_⟩, ?_, ?_, ?_, ?_, ?_, ?_, ?_, ?_⟩
  · rw [List.reverse_cons, List.flatten_append, h2]
    simp
  · refine (World.cell?_setCell_other _ ⟨pb, 1, none⟩ ⟨pb, 0, none⟩ _ (by simp)).trans ?_
    obtain ⟨l', a', h1', h2', h3'⟩ := h'.last
    exact World.cell?_setCell_same _ _ _ h3'
  · show _ = some (Value.int .i64 (((p.out ++ b).length : Nat) : Int))
    rw [List.length_append]
    exact World.cell?_setCell_same _ _ _ ((World.cell?_setCell_other _ ⟨pb, 0, none⟩ ⟨pb, 1, none⟩ _ (by simp)).trans h'.size)
  · have hf := h'.fault
    rw [hb] at hf
    exact (World.cell?_setCell_other _ ⟨pb, 1, none⟩ ⟨pb, 2, none⟩ _ (by simp)).trans ((World.cell?_setCell_other _ ⟨pb, 0, none⟩ ⟨pb, 2, none⟩ _ (by simp)).trans hf)
  · rw [World.frozen?_setCell, World.frozen?_setCell]; exact h'.free0
  · rw [World.frozen?_setCell, World.frozen?_setCell]; exact h'.free1
  · rw [World.frozen?_setCell, World.frozen?_setCell]; exact h'.free2
  · intro x hx
    rcases List.mem_append.1 hx with hx | hx
    · exact h.bytes x hx
    · exact hby x hx
  · show (p.out ++ b).length ≤ 65536
    rw [List.length_append]; omega
  · intro c k e
    cases e

set_option maxRecDepth 100000 in
set_option maxHeartbeats 4000000 in
theorem put_ok (pb : Nat) (p : WireMath.Put) (s : ByteArray) (pp : Option Addr) (cap : Nat) (zs : List Int) (w : World) (h : OutAt w pb p) (hz : Ints w pp zs) (hs : s.size ≤ 200000) (h1 : 0 < zs.length) (hl : zs.length ≤ 17) :
    Calls Tryd.prog 64 #[.pointer (some ⟨pb, 0, none⟩), .string s, .slice pp zs.length cap] w fun e w' => e = .returned (.tuple #[]) ∧ OutAt w' pb (WireMath.putN p zs (nats s)) ∧ But pb w w' := by
  have c1 := h.size
  have c2 := h.fault
  have HO := Lib.hid h
  cases hb : p.bad with
  | some q =>
    obtain ⟨d, k⟩ := q
    rw [hb] at c2
    have c2' : w.cell? ⟨pb, 2, none⟩ = some (.int .i64 (d : Int)) := c2
    have t1 : ((d : Int) == 0) = false := by rw [beq_eq_false_iff_ne]; have := (h.bad d k hb).2; omega
    have t1' : (d == 0) = false := by rw [beq_eq_false_iff_ne]; have := (h.bad d k hb).2; omega
    have HR := Lib.hid (WireMath.putN_bad hb zs (nats s))
    clear h c2 hb
    go_enter Tryd.func64, Tryd.ntmps64
    go_wp2
    (try simp only [Exit.inBlock, Exit.then]); refine bodyPost_ret (results_none rfl _ _ _) rfl ?_
    rw [HR.out]
    exact ⟨rfl, HO.out, But.refl _ _⟩
  | none =>
    rw [hb] at c2
    have c2' : w.cell? ⟨pb, 2, none⟩ = some (.int .i64 0) := c2
    obtain ⟨N, hN⟩ : ∃ N, N = zs.length := ⟨_, rfl⟩
    have HN := Lib.hid hN
    have HZ := Lib.hid hz
    have HBad := Lib.hid hb
    rw [← hN] at h1 hl ⊢
    clear h c2 hz hN hb
    go_enter Tryd.func64, Tryd.ntmps64
    go_wp2
    have HE0 := Lib.hid (show OwnsM w w.heap.size 5 (.slice none 0 0) 0 (natVals .u8 []) from ⟨rfl, .inl ⟨rfl, rfl⟩⟩)
    go_loopg [6, 20] N (fun gh s6 s20 wx => ∃ i : Nat, i + gh = N ∧ s20 = .int .i64 (i : Int) ∧ (∃ E : List Nat, OwnsM wx w.heap.size 5 s6 E.length (natVals .u8 E) ∧ Hid (E = WireMath.numsBytes (zs.take i))) ∧ Hid ((zs.take i).all WireMath.mayNum = true) ∧ Below w.heap.size w wx)
    case atStart => exact ⟨0, by omega, by go_num, ⟨[], HE0.out, Lib.hid rfl⟩, Lib.hid rfl, Below.refl _ _⟩
    case round =>
      obtain ⟨i, hi, rfl, ⟨E, hown, hE⟩, hall, hbl⟩ := hrel
      obtain ⟨p6, c6, rfl⟩ := hown.shape
      have HOw := Lib.hid hown
      have HB := Lib.hid hbl
      have HX := Lib.hid (HO.out.below hbl)
      have HZr := Lib.hid (HZ.out.grown hbl)
      have hEl : E.length ≤ 200 := by
        have h1 := WireMath.numsBytes_len (zs.take i)
        rw [hE.out]
        rw [List.length_take] at h1
        omega
      clear hown hbl HE0
      by_cases hiN : i < N
      · have t2 : decide ((i : Int) < (N : Int)) = true := decide_eq_true (by omega)
        have t2' : decide (i < N) = true := decide_eq_true hiN
        obtain ⟨z, hzz⟩ : ∃ z, zs[i]? = some z := ⟨_, List.getElem?_eq_getElem (by rw [← HN.out]; exact hiN)⟩
        obtain ⟨hr, b, off, rfl, hc⟩ := HZr.out _ _ hzz
        by_cases hm : WireMath.mayNum z = true
        · have hm' := hm
          unfold WireMath.mayNum WireMath.top at hm'
          simp only [Bool.and_eq_true, decide_eq_true_eq] at hm'
          have t3 : decide (z < 0) = false := decide_eq_false (by omega)
          have t4 : decide (4611686018427387903 < z) = false := decide_eq_false (by omega)
          obtain ⟨n, hn⟩ : ∃ n : Nat, z = (n : Int) := ⟨z.toNat, by omega⟩
          have HS := Lib.hid (spell_ok n w.heap.size _ E wr HOw.out (by omega) HB.out.size (by omega))
          rw [← hn] at HS
          have htk : zs.take (i + 1) = zs.take i ++ [z] := by rw [List.take_add_one, hzz]; rfl
          have HE2 := Lib.hid (show E ++ WireMath.num n = WireMath.numsBytes (zs.take (i + 1)) by rw [htk, WireMath.numsBytes_snoc, ← hE.out, hn]; rfl)
          have HA2 := Lib.hid (show (zs.take (i + 1)).all WireMath.mayNum = true by rw [htk, List.all_append, hall.out]; simp [hm])
          clear hzz hm hm' hn htk hE hall HOw
          obtain ⟨el, hel⟩ : ∃ el, el = E.length := ⟨_, rfl⟩
          have HEL := Lib.hid hel
          rw [← hel] at HS hEl ⊢
          clear hel
          go_wp2_with (go_at_call 74; refine HS.out.mono ?_; rintro e w2 ⟨v2, rfl, ho2, hb2⟩; have HO2 := Lib.hid ho2; have HB2 := Lib.hid (HB.out.trans hb2); clear ho2 hb2)
          go_roundg (N - (i + 1))
          case measure => omega
          case rel => exact ⟨i + 1, by omega, by go_num, ⟨E ++ WireMath.num n, HO2.out, HE2⟩, HA2, HB2.out⟩
        · have hm' : WireMath.mayNum z = false := by simpa using hm
          have HF := Lib.hid (WireMath.putN_arg HBad.out hzz hm' (nats s))
          have HRf := Lib.hid (refuse_ok pb 1 p wr HX.out (.inl rfl))
          have HFl := Lib.hid (show fail_ p 1 = ⟨p.out, some (1, p.out.length)⟩ by unfold fail_; rw [HBad.out])
          unfold WireMath.mayNum WireMath.top at hm'
          clear hzz hE hall HOw hm
          by_cases hneg : z < 0
          · have t3 : decide (z < 0) = true := decide_eq_true hneg
            clear hm'
            go_wp2_with (go_at_call 73; refine HRf.out.mono ?_; rintro e w2 ⟨rfl, ho2, hb2⟩; have HO2 := Lib.hid ho2; have HB2 := Lib.hid ((But.of HB.out).trans hb2); clear ho2 hb2)
            (try simp only [Exit.inBlock, Exit.then]); refine bodyPost_ret (results_none rfl _ _ _) rfl ?_
            rw [HF.out, ← HFl.out]
            exact ⟨rfl, HO2.out, HB2.out⟩
          · have t3 : decide (z < 0) = false := decide_eq_false hneg
            have t4 : decide (4611686018427387903 < z) = true := decide_eq_true (by simp at hm'; omega)
            clear hm'
            go_wp2_with (go_at_call 73; refine HRf.out.mono ?_; rintro e w2 ⟨rfl, ho2, hb2⟩; have HO2 := Lib.hid ho2; have HB2 := Lib.hid ((But.of HB.out).trans hb2); clear ho2 hb2)
            (try simp only [Exit.inBlock, Exit.then]); refine bodyPost_ret (results_none rfl _ _ _) rfl ?_
            rw [HF.out, ← HFl.out]
            exact ⟨rfl, HO2.out, HB2.out⟩
      · obtain rfl : i = N := by omega
        obtain rfl : gk = 0 := by omega
        have t2' : decide (i < i) = false := decide_eq_false (by omega)
        have htk : zs.take i = zs := by rw [HN.out]; exact List.take_length
        have hE' := hE.out
        have hall' := hall.out
        rw [htk] at hE' hall'
        have HE := Lib.hid hE'
        have HA := Lib.hid hall'
        clear hE hall hE' hall' htk
        obtain ⟨el, hel⟩ : ∃ el, el = E.length := ⟨_, rfl⟩
        obtain ⟨pl, hpl⟩ : ∃ pl, pl = p.out.length := ⟨_, rfl⟩
        have hp64 : pl ≤ 65536 := by rw [hpl]; exact HX.out.long
        have hpe : 0 < el := by
          rw [hel, HE.out]
          have := HN.out
          cases zs with
          | nil => rw [List.length_nil] at this; omega
          | cons z r =>
            have h1 := WireMath.num_len_pos z.toNat
            show 0 < (WireMath.num z.toNat ++ WireMath.numsBytes r).length
            rw [List.length_append]; omega
        have c1r : wr.cell? ⟨pb, 1, none⟩ = some (.int .i64 (pl : Int)) := by rw [hpl]; exact HX.out.size
        have f1 : IntKind.i64.wrap ((pl : Int) + (el : Int)) = (pl : Int) + (el : Int) := by rw [IntKind.wrap_i64]; omega
        have f2 : IntKind.i64.wrap ((pl : Int) + (el : Int) + (s.size : Int)) = (pl : Int) + (el : Int) + (s.size : Int) := by rw [IntKind.wrap_i64]; omega
        have hlen : (WireMath.numsBytes zs ++ nats s).length = el + s.size := by rw [List.length_append, nats_len, ← HE.out, hel]
        by_cases hlong : 65536 < pl + el + s.size
        · have t5 : decide ((65536 : Int) < (pl : Int) + (el : Int) + (s.size : Int)) = true := decide_eq_true (by omega)
          have HF := Lib.hid (WireMath.putN_long HBad.out HA.out (s := nats s) (by rw [hlen]; omega))
          have HRf := Lib.hid (refuse_ok pb 3 p wr HX.out (.inr rfl))
          have HFl := Lib.hid (show fail_ p 3 = ⟨p.out, some (3, p.out.length)⟩ by unfold fail_; rw [HBad.out])
          rw [← hel] at *
          clear hlen hpl HOw
          go_wp2_with (go_at_call 73; refine HRf.out.mono ?_; rintro e w2 ⟨rfl, ho2, hb2⟩; have HO2 := Lib.hid ho2; have HB2 := Lib.hid ((But.of HB.out).trans hb2); clear ho2 hb2)
          (try simp only [Exit.inBlock, Exit.then]); refine bodyPost_ret (results_none rfl _ _ _) rfl ?_
          rw [HF.out, ← HFl.out]
          exact ⟨rfl, HO2.out, HB2.out⟩
        · have t5 : decide ((65536 : Int) < (pl : Int) + (el : Int) + (s.size : Int)) = false := decide_eq_false (by omega)
          have HF := Lib.hid (WireMath.putN_ok HBad.out HA.out (s := nats s) (by rw [hlen]; omega))
          obtain ⟨l, a, ht1, ht2, ht3⟩ := HX.out.last
          have g0 := HX.out.free0
          have g1 := HX.out.free1
          obtain ⟨g6, cap6, hv6, _, _, _, _, hcell6, _⟩ := HOw.out.open (by rw [← hel]; exact hpe)
          have hp6 : p6 = some ⟨g6, 0, none⟩ := by simpa using congrArg (fun v => match v with | .slice p _ _ => p | _ => none) hv6
          subst hp6
          have HCv := text_row wr.drew g6 c6 E (by rw [HE.out]; exact WireMath.numsBytes_lt zs HA.out) hcell6
          have d0 : wr.drew.cell? ⟨pb, 0, none⟩ = some (.pointer a) := ht3
          obtain ⟨B, hB⟩ : ∃ B, B = wr.heap.size := ⟨_, rfl⟩
          have hpB : pb < B := by rw [hB]; exact HX.out.lt
          obtain ⟨WA, hWA⟩ : ∃ WA, WA = wr.alloc (.cells #[.pointer a, .string (txt E ++ s)] 117) := ⟨_, rfl⟩
          have hBA : Below wr.heap.size wr WA := by rw [hWA]; exact (Below.refl _ _).alloc (Nat.le_refl _) _
          have a0 : WA.cell? ⟨pb, 0, none⟩ = some (.pointer a) := (hBA.cell (p := ⟨pb, 0, none⟩) HX.out.lt).trans ht3
          have ag0 : WA.frozen? ⟨pb, 0, none⟩ = false := (hBA.frozen (p := ⟨pb, 0, none⟩) HX.out.lt).trans g0
          have a1 : WA.cell? ⟨pb, 1, none⟩ = some (.int .i64 (pl : Int)) := (hBA.cell (p := ⟨pb, 1, none⟩) HX.out.lt).trans c1r
          have ag1 : WA.frozen? ⟨pb, 1, none⟩ = false := (hBA.frozen (p := ⟨pb, 1, none⟩) HX.out.lt).trans g1
          have f4 : IntKind.i64.wrap ((el : Int) + (s.size : Int)) = (el : Int) + (s.size : Int) := by rw [IntKind.wrap_i64]; omega
          have f5 : IntKind.i64.wrap ((pl : Int) + ((el : Int) + (s.size : Int))) = (pl : Int) + ((el : Int) + (s.size : Int)) := by rw [IntKind.wrap_i64]; omega
          have hby : ∀ x ∈ WireMath.numsBytes zs ++ nats s, x < 256 := fun x hx => by
            rcases List.mem_append.1 hx with hx | hx
            · exact WireMath.numsBytes_lt zs HA.out x hx
            · exact nats_lt s x hx
          rw [← HE.out] at hlen hby
          have hM := HX.out.more (T := 117) ht3 HBad.out (b := E ++ nats s) (by rw [hlen]; omega) (by rw [hlen]; omega) hby
          rw [← txt_append, txt_nats, hlen, ← hpl, show ((pl + (el + s.size) : Nat) : Int) = (pl : Int) + ((el : Int) + (s.size : Int)) by omega] at hM
          have HM := Lib.hid hM
          rw [hWA] at a0 ag0 a1 ag1
          rw [← hel] at HCv ⊢
          have HEL := Lib.hid hel
          have HPL := Lib.hid hpl
          have HWA := Lib.hid hWA
          have HBB := Lib.hid hB
          have HLen := Lib.hid hlen
          have f3 : ¬ 9223372036854775807 < (txt E).size + s.size := by rw [txt_len, ← hel]; omega
          clear ht1 ht2 hcell6 hv6 hel hpl hWA hB hlen hBA hby hM
          go_wp2
          go_region
          all_goals
            go_wp2
            go_end0
            rw [HF.out, ← HE.out]
            exact ⟨rfl, HM.out.drew, ((((But.of HB.out).alloc _).trans (But.set pb 0 _ _)).trans (But.set pb 1 _ _)).drew⟩
end Go.Proofs.YtajkldmpllphjaaDoor
namespace Go.Proofs.YtajkldmpllphjaaDoor
open Go.RowKit

section
variable {P : Program}
/-- The second slice's type plays no part. -/
theorem append_types (t t2 ty e e2 : TypeId) (i : TypeInfo) (ht : P.underlying t = some (.slice e)) (ht2 : P.underlying t2 = some (.slice e2)) (hi : P.info? e = some i) (b : Option Addr) (n c : Nat) (x : Value) (w : World) :
    (Builtin.append_ #[t, t2] ty #[.slice b n c, x]).run P w = (Builtin.append_ #[t, t] ty #[.slice b n c, x]).run P w := by
  simp [Builtin.append_, run_underlying ht, run_underlying ht2, sizeOf, typeInfo, hi]

theorem run_append_any (w : World) (base : Nat) (t t2 ty e e2 : TypeId) (i : TypeInfo) (z : Value) (bytes : Nat) (ht : P.underlying t = some (.slice e)) (ht2 : P.underlying t2 = some (.slice e2)) (hi : P.info? e = some i) (hz : i.zero = some z)
    (hsize : i.size = 1) (hby : i.bytes = bytes) (hzs : z.cells.size = 1)
    (v : Value) (n : Nat) (xs : List Value) (hown : OwnsM w base e v n xs)
    (pp : Option Addr) (m c : Nat) (news : List Value) (hl : news.length = m) (hnews : ∀ j u, news[j]? = some u → ∃ ad, pp = some ad ∧ w.cell? (ad.add j) = some u) (h1 : ∀ u ∈ news, u.oneCell' = true)
    (h63 : n + m ≤ maxLen) (hbytes : (n + m) * bytes ≤ 140737488355328) (hbase : base ≤ w.heap.size) :
    ∃ v' w', (Builtin.append_ #[t, t2] ty #[v, .slice pp m c]).run P w = .ok v' w' ∧ OwnsM w' base e v' (n + m) (xs ++ news) ∧ w.grownBy w' v.ownBlock := by
  obtain ⟨p0, c0, rfl⟩ := hown.shape
  rw [append_types t t2 ty e e2 i ht ht2 hi]
  cases pp with
  | some ad =>
    exact run_append_m w base t ty e i z bytes ht hi hz hsize hby hzs _ n xs hown ad m c news hl (fun j u hj => by
      obtain ⟨ad', h, hc⟩ := hnews j u hj
      obtain rfl := Option.some.inj h
      exact hc) h1 h63 hbytes hbase
  | none =>
    obtain rfl : news = [] := by
      cases news with
      | nil => rfl
      | cons u r =>
        obtain ⟨ad, h, _⟩ := hnews 0 u rfl
        cases h
    obtain rfl : m = 0 := hl.symm
    refine ⟨_, w, ?_, by rw [List.append_nil]; exact hown, ⟨rfl, rfl, rfl, Nat.le_refl _, fun k _ _ => rfl⟩⟩
    have hnc : n ≤ c0 := by
      rcases hown.2 with ⟨h, h0⟩ | ⟨g, cap, cur, lo, hi', h, hbg, hg, hmk, hnc, _⟩
      · omega
      · have : c0 = cap := by simpa using congrArg (fun v => match v with | .slice _ _ c => c | _ => 0) h
        omega
    cases p0 <;> simp [Builtin.append_, run_underlying ht, sizeOf, typeInfo, hi, Builtin.lenOf, Builtin.firstCells, hnc, storeCells]

theorem wpList_append_any {w : World} {ops : Array Oper} {rest : List Oper} {o : Oper} {a : Act} {Q : Exit → Act → World → Prop} (hgd : o.guard = none) (s x : Operand) (t t2 : TypeId)
    (ho : o.op = .call { callee := .builtin .append, args := #[s, x], argTypes := #[t, t2] })
    (base : Nat) (e e2 : TypeId) (i : TypeInfo) (z : Value) (bytes : Nat) (ht : P.underlying t = some (.slice e)) (ht2 : P.underlying t2 = some (.slice e2)) (hi : P.info? e = some i) (hz : i.zero = some z)
    (hsize : i.size = 1) (hby : i.bytes = bytes) (hzs : z.cells.size = 1)
    (v : Value) (n : Nat) (xs : List Value) (hs : a.eval s = v) (hown : OwnsM w base e v n xs)
    (pp : Option Addr) (m c : Nat) (news : List Value) (hx : a.eval x = .slice pp m c) (hl : news.length = m) (hnews : ∀ j u, news[j]? = some u → ∃ ad, pp = some ad ∧ w.cell? (ad.add j) = some u) (h1 : ∀ u ∈ news, u.oneCell' = true)
    (h63 : n + m ≤ maxLen) (hbytes : (n + m) * bytes ≤ 140737488355328) (hbase : base ≤ w.heap.size)
    (h : ∀ v' w', OwnsM w' base e v' (n + m) (xs ++ news) → w.grownBy w' v.ownBlock → wpList P ops Q rest (a.put o.dst v') w') : wpList P ops Q (o :: rest) a w := by
  refine wpList_plain hgd fun K hK => ?_
  obtain ⟨v', w', hr, h2, h3⟩ := run_append_any (P := P) w base t t2 o.type e e2 i z bytes ht ht2 hi hz hsize hby hzs v n xs hown pp m c news hl hnews h1 h63 hbytes hbase
  unfold Oper.wp execOp
  simp only [ho, resolve, invoke, builtin, Sem.run_bind, Sem.run_pure, Result.andThen_ok, List.map_toArray, List.map_cons, List.map_nil, hs, hx, hr]
  exact hK _ _ (h v' w' h2 h3)
end
end Go.Proofs.YtajkldmpllphjaaDoor
namespace Go.Proofs.YtajkldmpllphjaaDoor
open Go.RowKit TextNat

theorem ints_new (zs : List Int) (hz : ∀ z ∈ zs, -9223372036854775808 ≤ z ∧ z ≤ 9223372036854775807) (T : TypeId) (w : World) : Ints (w.alloc (.cells (zs.map (Value.int .i64)).toArray T)) (some ⟨w.heap.size, 0, none⟩) zs := fun i z hi => by
  refine ⟨hz z (List.mem_of_getElem? hi), w.heap.size, 0, rfl, ?_⟩
  rw [Nat.zero_add, cell_of_row _ w.heap.size i _ _ _ (heap_alloc_new w _), List.getElem?_toArray, List.getElem?_map, hi]
  rfl
theorem ints_own {w : World} {base : Nat} {T : TypeId} {p : Option Addr} {c : Nat} (zs : List Int) (hz : ∀ z ∈ zs, -9223372036854775808 ≤ z ∧ z ≤ 9223372036854775807) (n : Nat) (h : OwnsM w base T (.slice p n c) n (zs.map (Value.int .i64))) : Ints w p zs := fun i z hi => by
  have hn : zs.length = n := by have := h.1; rwa [List.length_map] at this
  have hlt : i < zs.length := by
    rcases Nat.lt_or_ge i zs.length with g | g
    · exact g
    · rw [List.getElem?_eq_none g] at hi; cases hi
  obtain ⟨g, cap, hv, _, _, _, _, hcell, _⟩ := h.open (by omega)
  have hp : p = some ⟨g, 0, none⟩ := by simpa using congrArg (fun v => match v with | .slice p _ _ => p | _ => none) hv
  refine ⟨hz z (List.mem_of_getElem? hi), g, 0, hp, ?_⟩
  rw [Nat.zero_add, hcell i (by omega), List.getElem?_map, hi]
  rfl

set_option maxRecDepth 100000 in
theorem num_ok (pb : Nat) (p : WireMath.Put) (n : Int) (w : World) (h : OutAt w pb p) (hn : -9223372036854775808 ≤ n ∧ n ≤ 9223372036854775807) :
    Calls Tryd.prog 51 #[.pointer (some ⟨pb, 0, none⟩), .int .i64 n] w fun e w' => e = .returned (.tuple #[]) ∧ OutAt w' pb (WireMath.putN p [n] []) ∧ But pb w w' := by
  have HP := Lib.hid (put_ok pb p ⟨#[]⟩ (some ⟨w.heap.size, 0, none⟩) 1 [n] (w.alloc (.cells #[.int .i64 n] 3)) (h.below ((Below.refl _ _).alloc (Nat.le_refl _) _)) (ints_new [n] (fun z hz => by rw [List.mem_singleton.1 hz]; exact hn) 3 w) (show 0 ≤ 200000 by omega) Nat.one_pos (show 1 ≤ 17 by omega))
  clear h
  go_enter Tryd.func51, Tryd.ntmps51
  go_wp2_with (go_at_call 64; refine HP.out.mono ?_; rintro e w2 ⟨rfl, ho, hb⟩)
  go_end0
  exact ⟨rfl, ho, ((But.refl pb w).alloc _).trans hb⟩

set_option maxRecDepth 100000 in
theorem text_ok (pb : Nat) (p : WireMath.Put) (s : ByteArray) (w : World) (h : OutAt w pb p) (hs : s.size ≤ 200000) :
    Calls Tryd.prog 52 #[.pointer (some ⟨pb, 0, none⟩), .string s] w fun e w' => e = .returned (.tuple #[]) ∧ OutAt w' pb (WireMath.putN p [(s.size : Int)] (nats s)) ∧ But pb w w' := by
  have HP := Lib.hid (put_ok pb p s (some ⟨w.heap.size, 0, none⟩) 1 [(s.size : Int)] (w.alloc (.cells #[.int .i64 (s.size : Int)] 3)) (h.below ((Below.refl _ _).alloc (Nat.le_refl _) _)) (ints_new [(s.size : Int)] (fun z hz => by rw [List.mem_singleton.1 hz]; omega) 3 w) hs (Nat.one_pos) (show 1 ≤ 17 by omega))
  clear h
  go_enter Tryd.func52, Tryd.ntmps52
  go_wp2_with (go_at_call 64; refine HP.out.mono ?_; rintro e w2 ⟨rfl, ho, hb⟩)
  go_end0
  exact ⟨rfl, ho, ((But.refl pb w).alloc _).trans hb⟩

end Go.Proofs.YtajkldmpllphjaaDoor
namespace Go.Proofs.YtajkldmpllphjaaDoor
open Go.RowKit TextNat

/-- copy of a text into the midst of a row of one's own. -/
theorem run_copy_text_at {P : Program} (w : World) (dT sT ty elem : TypeId) (g o dLen dCap : Nat) (s : ByteArray) (l : List Nat) (t : TypeId)
    (hu : P.underlying dT = some (.slice elem)) (hs : (P.info? elem).map (·.size) = some 1) (hg : Arr g t .u8 l w) (hl : o + dLen ≤ l.length) (hsl : s.size ≤ dLen) :
    (Builtin.copy_ #[dT, sT] ty #[.slice (some ⟨g, o, none⟩) dLen dCap, .string s]).run P w =
      .ok (.int .i64 (s.size : Int)) (w.setRow g (natVals .u8 (l.take o ++ (nats s ++ l.drop (o + s.size)))).toArray) := by
  have e : List.map (fun b : UInt8 => Value.int IntKind.u8 (b.toNat : Int)) s.data.toList = natVals .u8 (nats s) := by simp [natVals, nats, Function.comp_def]
  have hv : List.take (Nat.min s.size dLen) (List.map (fun b : UInt8 => Value.int IntKind.u8 (b.toNat : Int)) s.data.toList) = natVals .u8 (nats s) := by
    rw [e, show Nat.min s.size dLen = s.size from Nat.min_eq_left hsl, List.take_of_length_le (by rw [natVals_len, nats_len]; omega)]
  have hst := run_storeCells_at (P := P) g o t (natVals .u8 (nats s)) 0 _ w hg (by simp only [List.size_toArray, natVals_len, nats_len]; omega) (fun v hv => by
    obtain ⟨z, _, rfl⟩ := List.mem_map.1 hv
    rfl)
  rw [natVals_len, nats_len] at hst
  simp only [Nat.add_zero] at hst
  have hdd : (natVals .u8 l).take o ++ natVals .u8 (nats s) ++ (natVals .u8 l).drop (o + s.size) = natVals .u8 (l.take o ++ (nats s ++ l.drop (o + s.size))) := by
    rw [natVals_append, natVals_append, List.append_assoc]
    simp [natVals, List.map_take, List.map_drop]
  rw [hdd] at hst
  cases hq : P.info? elem with
  | none => simp [hq] at hs
  | some i =>
    have h1 : i.size = 1 := by simpa [hq] using hs
    simp [Builtin.copy_, run_underlying hu, Builtin.lenOf, Builtin.firstCells, sizeOf, typeInfo, hq]
    rw [hv, hst]
    simp [Result.andThen, goInt]
    exact congrArg Nat.cast (Nat.min_eq_left hsl)
theorem wpList_copy_text_at {P : Program} {w : World} {ops : Array Oper} {rest : List Oper} {o : Oper} {a : Act} {Q : Exit → Act → World → Prop} (hgd : o.guard = none) (d x : Operand) (dT sT : TypeId)
    (ho : o.op = .call { callee := .builtin .copy, args := #[d, x], argTypes := #[dT, sT] }) (elem : TypeId) (hu : P.underlying dT = some (.slice elem)) (hsz : (P.info? elem).map (·.size) = some 1)
    (g off dLen dCap : Nat) (s : ByteArray) (hd : a.eval d = .slice (some ⟨g, off, none⟩) dLen dCap) (hx : a.eval x = .string s) (t : TypeId) (l : List Nat) (hg : Arr g t .u8 l w) (hl : off + dLen ≤ l.length) (hsl : s.size ≤ dLen)
    (C : Array Value) (hC : C = (natVals .u8 (l.take off ++ (nats s ++ l.drop (off + s.size)))).toArray)
    (h : wpList P ops Q rest (a.put o.dst (.int .i64 (s.size : Int))) (w.setRow g C)) : wpList P ops Q (o :: rest) a w := by
  refine wpList_plain hgd fun K hK => ?_
  have hrun := run_copy_text_at (P := P) w dT sT o.type elem g off dLen dCap s l t hu hsz hg hl hsl
  unfold Oper.wp
  simp [execOp, ho, resolve, invoke, builtin, hd, hx, hrun, Result.andThen]
  exact hK _ _ (hC ▸ h)
theorem made_zeros (n : Nat) : madeCells #[Value.int .u8 0] n = (natVals .u8 (List.replicate n 0)).toArray := by
  apply Array.toList_inj.1
  rw [toList_madeCells_one]
  simp [natVals]
theorem below_setRow {B g : Nat} {w w' : World} (h : Below B w w') (hg : B ≤ g) (C : Array Value) : Below B w (w'.setRow g C) :=
  ⟨h.os, h.tape, h.output, by simpa using h.size, fun k hk => (setRow_other w' g k C (by omega)).trans (h.block k hk)⟩

/-- What Done answers: all bytes, or the first fault. -/
def DoneIs (w : World) (p : WireMath.Put) (e : Ending) : Prop :=
  match p.bad with
  | none => e = .returned (.tuple #[.string (txt p.out), .nilIface])
  | some (c, k) => ∃ r, e = .returned (.tuple #[.string ⟨#[]⟩, r]) ∧ Chain w.heap.size w [(⟨#[119, 105, 114, 101]⟩, (k : Int))] (.iface 33 (.int .i64 (c : Int))) r

set_option maxRecDepth 100000 in
set_option maxHeartbeats 4000000 in
theorem done_ok (pb : Nat) (p : WireMath.Put) (w : World) (h : OutAt w pb p) :
    Calls Tryd.prog 53 #[.pointer (some ⟨pb, 0, none⟩)] w fun e w' => DoneIs w' p e ∧ Below w.heap.size w w' := by
  have c1 := h.size
  have c2 := h.fault
  have HO := Lib.hid h
  cases hb : p.bad with
  | some q =>
    obtain ⟨d, k⟩ := q
    rw [hb] at c2
    have c2' : w.cell? ⟨pb, 2, none⟩ = some (.int .i64 (d : Int)) := c2
    obtain ⟨hk, hd⟩ := h.bad d k hb
    rw [← hk] at c1
    have t1 : ((d : Int) == 0) = false := by rw [beq_eq_false_iff_ne]; omega
    have t1' : (d == 0) = false := by rw [beq_eq_false_iff_ne]; omega
    have HA := Lib.hid (fun w1 => at_chain ⟨#[119, 105, 114, 101]⟩ (k : Int) [] (d : Int) (.iface 33 (.int .i64 (d : Int))) w1 rfl)
    have HD := Lib.hid (show ∀ w' r, Chain w'.heap.size w' [(⟨#[119, 105, 114, 101]⟩, (k : Int))] (.iface 33 (.int .i64 (d : Int))) r → DoneIs w' p (.returned (.tuple #[.string ⟨#[]⟩, r])) from fun w' r hr => by unfold DoneIs; rw [hb]; exact ⟨r, rfl, hr⟩)
    clear h c2 hb hk hd
    go_enter Tryd.func53, Tryd.ntmps53
    go_wp2
    go_still_tail 9, (by kernel_rfl)
    change wpList _ _ _ _ _ w.drew
    go_wp2_with (go_at_call 15; refine (HA.out _).mono ?_; rintro e w2 ⟨r, rfl, hc, hb⟩)
    go_ret2
    exact ⟨HD.out _ _ hc, Below.trans (Below.refl _ _).drew hb⟩
  | none =>
    rw [hb] at c2
    have c2' : w.cell? ⟨pb, 2, none⟩ = some (.int .i64 0) := c2
    obtain ⟨N, hN⟩ : ∃ N, N = p.out.length := ⟨_, rfl⟩
    have hN16 : N ≤ 65536 := by rw [hN]; exact h.long
    rw [← hN] at c1
    obtain ⟨l, a, ht, hfl, c0⟩ := h.last
    have hmk := run_make_row' (P := Tryd.prog) 54 5 (.int .u8 0) 1 Tryd.underlying54 info_byte rfl .i64 .i64 N (by omega) (by omega)
    have hW1 : ∀ o, Below w.heap.size w (w.alloc o) := fun o => (Below.refl _ _).alloc (Nat.le_refl _) o
    have k0 : ∀ o, (w.alloc o).cell? ⟨pb, 0, none⟩ = some (.pointer a) := fun o => ((hW1 o).cell (p := ⟨pb, 0, none⟩) h.lt).trans c0
    have k1 : ∀ o, (w.alloc o).cell? ⟨pb, 1, none⟩ = some (.int .i64 (N : Int)) := fun o => ((hW1 o).cell (p := ⟨pb, 1, none⟩) h.lt).trans c1
    have hA0 : Arr w.heap.size 5 .u8 (List.replicate N 0) (w.alloc (.cells (madeCells #[.int .u8 0] N) 5)) := by rw [made_zeros]; exact Arr.new _ _ _ _
    have HA0 := Lib.hid hA0
    have HB0 := Lib.hid (hW1 (.cells (madeCells #[.int .u8 0] N) 5))
    have HN := Lib.hid hN
    have HTh := Lib.hid ht
    have HFl := Lib.hid hfl
    have HBy := Lib.hid h.bytes
    have hlen : l.reverse.flatten.length = N := by rw [hfl, hN]
    have HL := Lib.hid hlen
    have HD := Lib.hid (show ∀ w', DoneIs w' p (.returned (.tuple #[.string (txt p.out), .nilIface])) from fun w' => by unfold DoneIs; rw [hb])
    clear h c2 hb hN ht hfl hA0 hW1 hlen
    go_enter Tryd.func53, Tryd.ntmps53
    go_wp2
    go_loopg [5, 6] l.length (fun gh s5 s6 wx => ∃ (rem done : List (List Nat)) (en : Nat) (q : Option Addr) (R : List Nat), rem.length = gh ∧ s5 = .int .i64 (en : Int) ∧ s6 = .pointer q ∧ Hid (l = done ++ rem) ∧ Hid (en = rem.reverse.flatten.length) ∧ Hid (Things pb w rem q) ∧ Hid (Arr w.heap.size 5 .u8 R wx) ∧ Hid (R.length = N) ∧ Hid (R.drop en = done.reverse.flatten) ∧ Hid (en ≤ N) ∧ Hid (Below w.heap.size w wx))
    case atStart => exact ⟨l, [], N, a, List.replicate N 0, rfl, by go_num, rfl, Lib.hid rfl, Lib.hid HL.out.symm, HTh, HA0, Lib.hid List.length_replicate, Lib.hid (by simp), Lib.hid (Nat.le_refl _), HB0⟩
    case round =>
      obtain ⟨rem, done, en, q, R, hrl, rfl, rfl, hl, hen, hth, HA, hR, hd, hle, HB⟩ := hrel
      clear HA0 HB0 k0 k1
      cases rem with
      | nil =>
        have hq : q = none := hth.out
        subst hq
        obtain rfl : gk = 0 := hrl.symm
        obtain rfl : en = 0 := hen.out
        have HR0 := Lib.hid (show R = p.out by have h1 := hd.out; rw [List.drop_zero] at h1; rw [h1, ← HFl.out, hl.out, List.append_nil])
        rw [HR0.out] at HA
        have HCv : ∀ c, (convert 54 9 (.slice (some ⟨w.heap.size, 0, none⟩) N c)).run Tryd.prog wr = .ok (.string (txt p.out)) wr := fun c => by
          have := text_row wr w.heap.size c p.out HBy.out (fun j hj => by rw [cell_of_row wr w.heap.size j _ _ _ HA.out]; simp)
          rw [← HN.out] at this
          exact this
        clear hth hl hd hR HR0 hen
        go_wp2
        go_ret2
        exact ⟨HD.out _, HB.out⟩
      | cons b rem =>
        obtain ⟨qb, q2, rfl, hb0, hqb, cc0, cc1, hth2⟩ := hth.out
        obtain ⟨bl, hbl⟩ : ∃ bl, bl = b.length := ⟨_, rfl⟩
        have hen2 := hen.out
        rw [List.reverse_cons, List.flatten_append, List.length_append] at hen2
        simp only [List.flatten_cons, List.flatten_nil, List.append_nil, ← hbl] at hen2
        obtain ⟨e2, he2⟩ : ∃ e2, e2 = rem.reverse.flatten.length := ⟨_, rfl⟩
        rw [← he2] at hen2
        have hle' := hle.out
        have x0 : wr.cell? ⟨qb, 0, none⟩ = some (.pointer q2) := (HB.out.cell (p := ⟨qb, 0, none⟩) (cell_lt cc0)).trans cc0
        have x1 : wr.cell? ⟨qb, 1, none⟩ = some (.string (txt b)) := (HB.out.cell (p := ⟨qb, 1, none⟩) (cell_lt cc1)).trans cc1
        obtain ⟨S, hS⟩ : ∃ S, S = txt b := ⟨_, rfl⟩
        have hSs : S.size = bl := by rw [hS, txt_len, hbl]
        rw [← hS] at x1
        obtain ⟨C, hC⟩ : ∃ C, C = (natVals .u8 (R.take e2 ++ (nats S ++ R.drop (e2 + S.size)))).toArray := ⟨_, rfl⟩
        have hBn := below_setRow HB.out.drew (Nat.le_refl w.heap.size) C
        have y0 : (wr.drew.setRow w.heap.size C).cell? ⟨qb, 0, none⟩ = some (.pointer q2) := (hBn.cell (p := ⟨qb, 0, none⟩) (cell_lt cc0)).trans cc0
        have HBn := Lib.hid hBn
        have HS := Lib.hid hS
        have HC := Lib.hid hC
        have HSs := Lib.hid hSs
        have f1 : IntKind.i64.wrap ((en : Int) - (bl : Int)) = (e2 : Int) := by rw [IntKind.wrap_i64]; omega
        have f2 : (en : Int) - (bl : Int) = (e2 : Int) := by omega
        have f3 : wrap64 ((en : Int) - (bl : Int)) = (e2 : Int) := by unfold wrap64; omega
        have i1 : e2 ≤ N := by omega
        have i2 : (e2 : Int) ≤ (N : Int) := by omega
        have i3 : e2 < N := by omega
        have i5 : ¬ N = e2 := by omega
        have HE2 := Lib.hid he2
        have HBL := Lib.hid hbl
        have HEN := Lib.hid hen2
        rw [← hSs] at f1 f2 f3
        clear cc0 cc1 hth hen hen2 he2 hbl hS hC hBn hle' hSs hb0
        have HRC := Lib.hid (show Arr w.heap.size 5 .u8 (R.take e2 ++ (nats S ++ R.drop (e2 + S.size))) (wr.drew.setRow w.heap.size C) by rw [HC.out]; exact HA.out.drew.row _)
        go_wp2
        go_still_tail 7, (by kernel_rfl)
        change wpList _ _ _ _ _ wr.drew
        refine wpList_copy_text_at rfl (.tmp 54) (.tmp 58) 54 9 rfl 5 Tryd.underlying54 (by kernel_rfl) w.heap.size e2 (N - e2) (N - e2) S rfl rfl 5 R HA.out.drew (by have := hR.out; omega) (by have := HSs.out; have := HEN.out; have := hle.out; omega) C HC.out ?_
        go_wp2
        go_roundg rem.length
        case measure => simp at hrl; omega
        case rel =>
          refine ⟨rem, done ++ [b], e2, q2, _, rfl, by go_num, rfl, Lib.hid (by rw [hl.out, List.append_assoc]; rfl), HE2, Lib.hid hth2, HRC, Lib.hid ?_, Lib.hid ?_, Lib.hid (by omega), HBn⟩
          · have h1 := hR.out
            have h2 := HSs.out
            have h3 := HEN.out
            have h4 := hle.out
            rw [List.length_append, List.length_append, List.length_take, List.length_drop, nats_len]
            omega
          · have h1 := hR.out
            have h2 := HSs.out
            have h3 := HEN.out
            rw [List.drop_append, List.length_take, List.drop_eq_nil_of_le (by rw [List.length_take]; omega), List.nil_append, show e2 - min e2 R.length = 0 by omega, List.drop_zero, List.reverse_append, List.flatten_append, ← hd.out, h2, ← h3, HS.out]
            have hbb : nats (txt b) = b := nats_txt _ (fun x hx => HBy.out x (by
              rw [← HFl.out, hl.out]
              simp only [List.mem_flatten, List.mem_reverse]
              exact ⟨b, by simp, hx⟩))
            rw [hbb]
            simp
/-- A new Out has nothing. -/
theorem out_new (w : World) : OutAt (w.alloc (.cells #[.pointer none, .int .i64 0, .int .i64 0] 99)) w.heap.size ⟨[], none⟩ :=
  ⟨⟨[], none, rfl, rfl, by simp⟩, by simp, by simp [faultCode], by simp, by simp, by simp, (fun b hb => by cases hb), by simp, (fun c k h => by cases h)⟩
end Go.Proofs.YtajkldmpllphjaaDoor
namespace Go.Proofs.YtajkldmpllphjaaDoor
open Go.RowKit TextNat

/-- The bytes l lie in block g, from its first cell on; the mark, if there is one, lies outside. -/
def Row8 (w : World) (g : Nat) (l : List Nat) : Prop := ∃ (cur : Array Value) (T : TypeId) (fr : Nat × Nat), w.heap[g]? = some (.cells cur T fr) ∧ (fr.2 = 0 ∨ cur.size ≤ fr.1) ∧ cur.toList.take l.length = byteVals l
theorem Row8.of {w : World} {base g cap : Nat} {e : TypeId} {l : List Nat} (h : OwnsM w base e (.slice (some ⟨g, 0, none⟩) l.length cap) l.length (byteVals l)) : Row8 w g l := by
  rcases h.2 with ⟨h1, _⟩ | ⟨g', cap', cur, lo, hi, he, _, hg, hm, _, _, _, ht⟩
  · cases h1
  · simp only [Value.slice.injEq, Option.some.injEq, Addr.mk.injEq] at he
    obtain ⟨⟨rfl, _⟩, _⟩ := he
    exact ⟨cur, e, (lo, hi), hg, hm, ht⟩
theorem Row8.cell {w : World} {g : Nat} {l : List Nat} (h : Row8 w g l) {j z : Nat} (hz : l[j]? = some z) : w.cell? ⟨g, j, none⟩ = some (.int .u8 (z : Int)) := by
  obtain ⟨cur, T, fr, hg, _, ht⟩ := h
  have hj : j < l.length := (List.getElem?_eq_some_iff.1 hz).1
  rw [cell_of_row w g j cur T fr hg]
  have := congrArg (fun k : List Value => k[j]?) ht
  simp only [List.getElem?_take, if_pos hj, Array.getElem?_toList] at this
  rw [this]
  unfold byteVals
  rw [List.getElem?_map, hz]
  rfl
theorem Row8.free {w : World} {g : Nat} {l : List Nat} (h : Row8 w g l) {j : Nat} (hj : j < l.length) : w.frozen? ⟨g, j, none⟩ = false := by
  obtain ⟨cur, T, fr, hg, hm, ht⟩ := h
  have hl := congrArg List.length ht
  rw [List.length_take] at hl
  unfold byteVals at hl
  rw [List.length_map] at hl
  have hs : cur.toList.length = cur.size := Array.length_toList
  simp only [World.frozen?, hg]
  rcases hm with h | h
  · simp [h]
  · simp
    omega
theorem Row8.set {w : World} {g : Nat} {l : List Nat} (h : Row8 w g l) (i z : Nat) : Row8 (w.setCell ⟨g, i, none⟩ (.int .u8 (z : Int))) g (l.set i z) := by
  obtain ⟨cur, T, fr, hg, hm, ht⟩ := h
  refine ⟨cur.setIfInBounds i (.int .u8 (z : Int)), T, fr, by simp [World.setCell, Array.getElem?_modify, hg], by simpa using hm, ?_⟩
  rw [List.length_set, Array.toList_setIfInBounds, List.take_set, ht]
  unfold byteVals
  rw [List.map_set]
theorem Row8.lt {w : World} {g : Nat} {l : List Nat} (h : Row8 w g l) : g < w.heap.size := by
  obtain ⟨cur, T, fr, hg, _⟩ := h
  exact (Array.getElem?_eq_some_iff.1 hg).1
theorem Row8.below {w w' : World} {g : Nat} {l : List Nat} (h : Row8 w g l) (hb : Below w.heap.size w w') : Row8 w' g l := by
  have hl := h.lt
  obtain ⟨cur, T, fr, hg, hm, ht⟩ := h
  exact ⟨cur, T, fr, (hb.block g hl).trans hg, hm, ht⟩
theorem Row8.text {w : World} {g : Nat} {l : List Nat} (h : Row8 w g l) (hl : ∀ b ∈ l, b < 256) (cap : Nat) :
    (convert 54 9 (.slice (some ⟨g, 0, none⟩) l.length cap)).run Tryd.prog w = .ok (.string (txt l)) w :=
  text_row w g cap l hl (fun j hj => by
    rw [h.cell (List.getElem?_eq_getElem hj), natVals_at, List.getElem?_eq_getElem hj]
    rfl)
end Go.Proofs.YtajkldmpllphjaaDoor
namespace FrameMath
open TextNat Go.Proofs.YtajkldmpllphjaaDoor
/-- What is read so far, and what is to come. -/
def ReadTo (r D : List Nat) : Prop := D ++ bytesOf (r.drop (2 * D.length)) = bytesOf r
theorem ReadTo.start (r : List Nat) : ReadTo r [] := rfl
theorem drop_two {r : List Nat} {k x y : Nat} (hx : r[k]? = some x) (hy : r[k + 1]? = some y) : r.drop k = x :: y :: r.drop (k + 2) := by
  have h1 := (List.getElem?_eq_some_iff.1 hx)
  have h2 := (List.getElem?_eq_some_iff.1 hy)
  obtain ⟨a1, a2⟩ := h1
  obtain ⟨b1, b2⟩ := h2
  rw [List.drop_eq_getElem_cons a1, List.drop_eq_getElem_cons b1, a2, b2]
theorem ReadTo.next {r D : List Nat} {x y : Nat} (h : ReadTo r D) (hx : r[2 * D.length]? = some x) (hy : r[2 * D.length + 1]? = some y) (hv : 64 ≤ x ∧ x < 80 ∧ 64 ≤ y ∧ y < 80) : ReadTo r (D ++ [16 * (x - 64) + (y - 64)]) := by
  unfold ReadTo at *
  rw [drop_two hx hy, bytesOf, if_pos hv] at h
  rw [← h, List.length_append, List.append_assoc]
  show D ++ ([_] ++ bytesOf (r.drop (2 * (D.length + 1)))) = _
  rw [show 2 * (D.length + 1) = 2 * D.length + 2 by omega]
  rfl
theorem ReadTo.wrong {r D : List Nat} {x y : Nat} (h : ReadTo r D) (hx : r[2 * D.length]? = some x) (hy : r[2 * D.length + 1]? = some y) (hv : ¬ (64 ≤ x ∧ x < 80 ∧ 64 ≤ y ∧ y < 80)) : D = bytesOf r := by
  unfold ReadTo at h
  rw [drop_two hx hy, bytesOf, if_neg hv, List.append_nil] at h
  exact h
theorem ReadTo.end {r D : List Nat} (h : ReadTo r D) (hl : r.length ≤ 2 * D.length + 1) : D = bytesOf r := by
  unfold ReadTo at h
  have hs : (r.drop (2 * D.length)).length ≤ 1 := by rw [List.length_drop]; omega
  have : bytesOf (r.drop (2 * D.length)) = [] := by
    match hr : r.drop (2 * D.length), hs with
    | [], _ => rfl
    | [_], _ => rfl
    | _ :: _ :: _, hs => simp at hs
  rw [this, List.append_nil] at h
  exact h
theorem bytesOf_lt (r : List Nat) : ∀ b ∈ bytesOf r, b < 256 := by
  induction r using bytesOf.induct with
  | case1 a b r hc ih =>
    unfold bytesOf
    rw [if_pos hc]
    intro x hx
    rcases List.mem_cons.1 hx with rfl | hx
    · omega
    · exact ih x hx
  | case2 a b r hc =>
    unfold bytesOf
    rw [if_neg hc]
    intro x hx
    cases hx
  | case3 l hl =>
    intro x hx
    unfold bytesOf at hx
    split at hx
    · rename_i a b r
      exact absurd rfl (hl a b r)
    · cases hx
theorem bytesOf_len (r : List Nat) : 2 * (bytesOf r).length ≤ r.length := by
  induction r using bytesOf.induct with
  | case1 a b r hc ih =>
    unfold bytesOf
    rw [if_pos hc, List.length_cons, List.length_cons, List.length_cons]
    omega
  | case2 a b r hc =>
    unfold bytesOf
    rw [if_neg hc]
    simp
  | case3 l hl =>
    unfold bytesOf
    split
    · rename_i a b r
      exact absurd rfl (hl a b r)
    · simp
/-- What stands at a place, by what was read behind it. -/
theorem openF_at {l : List Nat} {i : Nat} (h1 : l[i]? = some 1) {D : List Nat} (hD : D = bytesOf (l.drop (i + 1))) {n : Nat} (hn : n = D.getD 0 0 * 256 + D.getD 1 0) :
    openF l (i : Int) = if D.length < 10 then none else if 8192 < n ∨ D.length - 10 < n then none else if rawF ((D.drop 6).take n) = D.take (10 + n) then some ((D.drop 6).take n) else none := by
  have hi := (List.getElem?_eq_some_iff.1 h1).1
  unfold openF
  rw [if_pos (by omega)]
  show stands (l.drop i) = _
  rw [List.drop_eq_getElem_cons hi, (List.getElem?_eq_some_iff.1 h1).2]
  unfold stands
  simp only []
  rw [← hD, ← hn]
theorem openF_not {l : List Nat} {i z : Nat} (h1 : l[i]? = some z) (hz : z ≠ 1) : openF l (i : Int) = none := by
  have hi := (List.getElem?_eq_some_iff.1 h1).1
  unfold openF
  rw [if_pos (by omega)]
  show stands (l.drop i) = _
  rw [List.drop_eq_getElem_cons hi, (List.getElem?_eq_some_iff.1 h1).2]
  unfold stands
  split
  · rename_i r h
    exact absurd (List.cons.inj h).1 hz
  · rfl
theorem openF_out {l : List Nat} {k : Int} (h : k < 0 ∨ (l.length : Int) ≤ k) : openF l k = none := by
  unfold openF
  rw [if_neg (by omega)]
end FrameMath
