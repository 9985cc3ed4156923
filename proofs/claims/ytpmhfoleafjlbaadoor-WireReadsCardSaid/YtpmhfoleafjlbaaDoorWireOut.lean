/-
  The contracts of the program's Out of chapter 5: put and refuse. The conditions: what came in lies in memory; texts of at most 200,000 bytes.
-/
import Derived.Test.YtpmhfoleafjlbaaDoorWireSpell
namespace Go.Proofs.YtpmhfoleafjlbaaDoor
open Go.RowKit TextNat

/-- No nought at its end. -/
def whole_ (zs : List Int) : Bool := !(zs.getLast? == some 0)
set_option maxRecDepth 100000 in
theorem trimmed_ok (pp : Option Addr) (cap : Nat) (zs : List Int) (w : World) (hz : Ints w pp zs) (hl : zs.length ≤ 9223372036854775807) :
    Calls Tryd.prog 33 #[.slice pp zs.length cap] w fun e w' => e = .returned (.bool (whole_ zs)) ∧ w' = w := by
  obtain ⟨N, hN⟩ : ∃ N, N = zs.length := ⟨_, rfl⟩
  rw [← hN]
  by_cases h0 : N = 0
  · obtain rfl : zs = [] := List.length_eq_zero_iff.1 (hN.symm.trans h0)
    have t1 : ((N : Int) == 0) = true := by rw [beq_iff_eq]; omega
    have t1' : (N == 0) = true := by rw [beq_iff_eq]; omega
    clear hN
    go_enter Tryd.func33, Tryd.ntmps33
    go_wp2
    go_ret
    exact ⟨rfl, rfl⟩
  · obtain ⟨z, hzz⟩ : ∃ z, zs[N - 1]? = some z := ⟨_, List.getElem?_eq_getElem (by omega)⟩
    obtain ⟨hr, b, off, rfl, hc⟩ := hz _ _ hzz
    have t1 : ((N : Int) == 0) = false := by rw [beq_eq_false_iff_ne]; omega
    have t1' : (N == 0) = false := by rw [beq_eq_false_iff_ne]; omega
    have HR := Lib.hid (show whole_ zs = !(z == 0) by
      unfold whole_
      rw [List.getLast?_eq_getElem?, ← hN, hzz]
      rfl)
    have i0 : (0 : Int) ≤ (N : Int) - 1 := by omega
    have i1 : (N : Int) - 1 < (N : Int) := by omega
    have i2 : ((N : Int) - 1).toNat = N - 1 := by omega
    have i3 : IntKind.i64.wrap ((N : Int) - 1) = (N : Int) - 1 := by rw [IntKind.wrap_i64]; omega
    clear hzz hz hN
    go_enter Tryd.func33, Tryd.ntmps33
    go_wp2
    go_ret
    rw [HR.out]
    exact ⟨rfl, rfl⟩
/-- The things that were put, the last one first; none lies in block pb. -/
def Things (pb : Nat) (w : World) : List (List Nat) → Option Addr → Prop
  | [], p => p = none
  | b :: r, p => ∃ q a, p = some ⟨q, 0, none⟩ ∧ 0 < b.length ∧ q ≠ pb ∧ w.cell? ⟨q, 0, none⟩ = some (.pointer a) ∧ w.cell? ⟨q, 1, none⟩ = some (.string (txt b)) ∧ Things pb w r a
theorem Things.but {pb : Nat} {w w' : World} (hb : But pb w w') : ∀ {l : List (List Nat)} {p : Option Addr}, Things pb w l p → Things pb w' l p
  | [], _, h => h
  | _ :: _, _, ⟨q, a, h1, h0, h2, h3, h4, h5⟩ => ⟨q, a, h1, h0, h2, (hb.cell (cell_lt h3) h2).trans h3, (hb.cell (cell_lt h4) h2).trans h4, Things.but hb h5⟩
def faultCode : Option (Nat × Nat) → Nat
  | none => 0
  | some (c, _) => c
/-- What an Out holds. -/
structure OutAt (w : World) (pb : Nat) (p : WireMath.Put) : Prop where
  last : ∃ l a, Things pb w l a ∧ l.reverse.flatten = p.out ∧ w.cell? ⟨pb, 0, none⟩ = some (.pointer a)
  size : w.cell? ⟨pb, 1, none⟩ = some (.int .i64 (p.out.length : Int))
  fault : w.cell? ⟨pb, 2, none⟩ = some (.int .i64 (faultCode p.bad : Int))
  free0 : w.frozen? ⟨pb, 0, none⟩ = false
  free1 : w.frozen? ⟨pb, 1, none⟩ = false
  free2 : w.frozen? ⟨pb, 2, none⟩ = false
  bytes : ∀ b ∈ p.out, b < 256
  long : p.out.length ≤ 65536
  bad : ∀ c k, p.bad = some (c, k) → k = p.out.length ∧ (c = 1 ∨ c = 3)
theorem OutAt.lt {w : World} {pb : Nat} {p : WireMath.Put} (h : OutAt w pb p) : pb < w.heap.size := cell_lt h.size
/-- Where another block alone is written. -/
theorem OutAt.below {w w' : World} {pb : Nat} {p : WireMath.Put} (h : OutAt w pb p) (hb : Below w.heap.size w w') : OutAt w' pb p := by
  obtain ⟨l, a, h1, h2, h3⟩ := h.last
  exact ⟨⟨l, a, h1.but (But.of hb), h2, (hb.cell (p := ⟨pb, 0, none⟩) h.lt).trans h3⟩, (hb.cell (p := ⟨pb, 1, none⟩) h.lt).trans h.size, (hb.cell (p := ⟨pb, 2, none⟩) h.lt).trans h.fault, (hb.frozen (p := ⟨pb, 0, none⟩) h.lt).trans h.free0, (hb.frozen (p := ⟨pb, 1, none⟩) h.lt).trans h.free1, (hb.frozen (p := ⟨pb, 2, none⟩) h.lt).trans h.free2, h.bytes, h.long, h.bad⟩
/-- The first fault is noted. -/
def fail_ (p : WireMath.Put) (c : Nat) : WireMath.Put := match p.bad with
  | some _ => p
  | none => ⟨p.out, some (c, p.out.length)⟩
theorem OutAt.refused {w : World} {pb c : Nat} {p : WireMath.Put} (h : OutAt w pb p) (hc : c = 1 ∨ c = 3) (hb : p.bad = none) : OutAt (w.setCell ⟨pb, 2, none⟩ (.int .i64 (c : Int))) pb (fail_ p c) := by
  obtain ⟨l, a, h1, h2, h3⟩ := h.last
  unfold fail_
  rw [hb]
  exact ⟨⟨l, a, h1.but (But.set pb 2 w _), h2, (World.cell?_setCell_other _ ⟨pb, 2, none⟩ ⟨pb, 0, none⟩ _ (by simp)).trans h3⟩, (World.cell?_setCell_other _ ⟨pb, 2, none⟩ ⟨pb, 1, none⟩ _ (by simp)).trans h.size, World.cell?_setCell_same _ _ _ h.fault, by rw [World.frozen?_setCell]; exact h.free0, by rw [World.frozen?_setCell]; exact h.free1, by rw [World.frozen?_setCell]; exact h.free2, h.bytes, h.long, fun c' k e => by cases e; exact ⟨rfl, hc⟩⟩

set_option maxRecDepth 100000 in
theorem refuse_ok (pb c : Nat) (p : WireMath.Put) (w : World) (h : OutAt w pb p) (hc : c = 1 ∨ c = 3) :
    Calls Tryd.prog 34 #[.pointer (some ⟨pb, 0, none⟩), .int .i64 (c : Int)] w fun e w' => e = .returned (.tuple #[]) ∧ OutAt w' pb (fail_ p c) ∧ But pb w w' := by
  have c2 := h.fault
  have g2 := h.free2
  have HO := Lib.hid h
  cases hb : p.bad with
  | none =>
    rw [hb] at c2
    have c2' : w.cell? ⟨pb, 2, none⟩ = some (.int .i64 0) := c2
    have HR := Lib.hid (h.refused hc hb)
    clear h c2 hb
    go_enter Tryd.func34, Tryd.ntmps34
    go_wp2
    go_end0
    exact ⟨rfl, HR.out, But.set pb 2 w _⟩
  | some q =>
    obtain ⟨d, k⟩ := q
    rw [hb] at c2
    have c2' : w.cell? ⟨pb, 2, none⟩ = some (.int .i64 (d : Int)) := c2
    have t1 : ((d : Int) == 0) = false := by rw [beq_eq_false_iff_ne]; have := (h.bad d k hb).2; omega
    have t1' : (d == 0) = false := by rw [beq_eq_false_iff_ne]; have := (h.bad d k hb).2; omega
    have HR := Lib.hid (show fail_ p c = p by unfold fail_; rw [hb])
    clear h c2 hb
    go_enter Tryd.func34, Tryd.ntmps34
    go_wp2
    go_end0
    rw [HR.out]
    exact ⟨rfl, HO.out, But.refl _ _⟩
end Go.Proofs.YtpmhfoleafjlbaaDoor
