/-
  The contract of chapter 8's helper same. The conditions: the program's contracts; both devices.
-/
import Derived.Test.YtfdldjhndfohhaaDoorBlockDoes0
namespace Go.Proofs.YtfdldjhndfohhaaDoor
open Go.RowKit BlockMath TextNat

/-- What stays while same reads. -/
structure SameS (D : Dev) (B : Nat) (w0 : World) (b v : Nat) (d : Dk) (w : World) : Prop where
  pair : Pair D B w b v d
  bel : Below B w0 w
theorem SameS.below {D : Dev} {B b v : Nat} {w0 w w' : World} {d : Dk} (h : SameS D B w0 b v d w) (hb : Below w.heap.size w w') : SameS D B w0 b v d w' ∧ w'.cell? ⟨v, 0, none⟩ = some (.string d.done) :=
  ⟨⟨h.pair.below hb, h.bel.trans (hb.mono h.pair.bs)⟩, Lies.cell (i := 0) (h.pair.below hb).rd rfl⟩
section
variable {D : Dev} {B b v : Nat} {w0 w : World} {d : Dk}
theorem down_pair (hD : DownOk D) (ho : d.off = false) (h : SameS D B w0 b v d w ∧ w.cell? ⟨v, 0, none⟩ = some (.string d.done)) : Calls Tryd.prog 31 #[ptr b] w fun e w' => e = .returned (.bool false) ∧ (SameS D B w0 b v d w' ∧ w'.cell? ⟨v, 0, none⟩ = some (.string d.done)) := by
  obtain ⟨S, hs, -, -⟩ := h.1.pair.own
  refine (hD b S d w hs h.1.pair.ok).mono ?_
  rintro e w' ⟨rfl, hb⟩
  exact ⟨by rw [ho], h.1.below hb⟩
theorem len_pair (hL : LenOk D) (ho : d.off = false) (h : SameS D B w0 b v d w ∧ w.cell? ⟨v, 0, none⟩ = some (.string d.done)) : Calls Tryd.prog 15 #[ptr b] w fun e w' => e = .returned (.int .i64 ((all d).size : Int)) ∧ (SameS D B w0 b v d w' ∧ w'.cell? ⟨v, 0, none⟩ = some (.string d.done)) := by
  obtain ⟨S, hs, -, -⟩ := h.1.pair.own
  refine (hL b S d w hs h.1.pair.ok).mono ?_
  rintro e w' ⟨rfl, hb⟩
  exact ⟨by rw [size_on ho], h.1.below hb⟩
theorem safe_pair (hZ : SafeOk D) (ho : d.off = false) (h : SameS D B w0 b v d w ∧ w.cell? ⟨v, 0, none⟩ = some (.string d.done)) : Calls Tryd.prog 32 #[ptr b] w fun e w' => e = .returned (.int .i64 (d.done.size : Int)) ∧ (SameS D B w0 b v d w' ∧ w'.cell? ⟨v, 0, none⟩ = some (.string d.done)) := by
  obtain ⟨S, hs, -, -⟩ := h.1.pair.own
  refine (hZ b S d w hs h.1.pair.ok).mono ?_
  rintro e w' ⟨rfl, hb⟩
  exact ⟨by unfold safe; rw [if_neg (by rw [ho]; simp)], h.1.below hb⟩
theorem all_pair (h : SameS D B w0 b v d w ∧ w.cell? ⟨v, 0, none⟩ = some (.string d.done)) : Calls Tryd.prog 20 #[ptr v] w fun e w' => e = .returned (.string (all d)) ∧ (SameS D B w0 b v d w' ∧ w'.cell? ⟨v, 0, none⟩ = some (.string d.done)) := by
  refine (refAll v d w h.1.pair.rd h.1.pair.ok).mono ?_
  rintro e w' ⟨rfl, n, rfl⟩
  exact ⟨rfl, h.1.below (drawn_below n (Below.refl _ w))⟩
end
theorem lies_drewN {w : World} {b : Nat} {l : List Value} {T : TypeId} (h : Lies w b l T) (n : Nat) : Lies (w.drewN n) b l T := h
set_option maxRecDepth 100000 in
set_option maxHeartbeats 8000000 in
theorem same_ok {D : Dev} (hR : ReadOk D) (hL : LenOk D) (hZ : SafeOk D) (hD : DownOk D) (B b v : Nat) (d : Dk) (w : World) (h : Pair D B w b v d) :
    Calls Tryd.prog 10 #[ptr b, ptr v] w fun e w' => e = .returned (.bool true) ∧ Pair D B w' b v d ∧ Below B w w' := by
  have HP := Lib.hid h
  have HB := Lib.hid (Below.refl B w)
  have OK := Lib.hid h.ok
  have c4 := Lies.cell (i := 4) h.rd rfl
  replace hR := Lib.hid hR
  replace hL := Lib.hid hL
  replace hZ := Lib.hid hZ
  replace hD := Lib.hid hD
  clear h
  cases ho : d.off with
  | true =>
    rw [ho] at c4
    have e1 : size d = 0 := by unfold size; rw [if_pos ho]
    have e2 : safe d = 0 := by unfold safe; rw [if_pos ho]
    go_enter Tryd.func10, Tryd.ntmps10
    go_wp2_with fail
    obtain ⟨S, hs1, -, -⟩ := HP.out.own
    refine (hD.out b S d w hs1 OK.out).mono ?_
    rintro e w1 ⟨rfl, hb⟩
    rw [ho]
    replace HB := Lib.hid (HB.out.trans (hb.mono HP.out.bs))
    replace HP := Lib.hid (HP.out.below hb)
    clear hb hs1 S c4
    go_wp2_with fail
    obtain ⟨S, hs1, -, -⟩ := HP.out.own
    refine (hL.out b S d w1 hs1 OK.out).mono ?_
    rintro e w2 ⟨rfl, hb⟩
    rw [e1]
    replace HB := Lib.hid (HB.out.trans (hb.mono HP.out.bs))
    replace HP := Lib.hid (HP.out.below hb)
    clear hb hs1 S
    go_wp2_with fail
    obtain ⟨S, hs1, -, -⟩ := HP.out.own
    refine (hZ.out b S d w2 hs1 OK.out).mono ?_
    rintro e w3 ⟨rfl, hb⟩
    rw [e2]
    replace HB := Lib.hid (HB.out.trans (hb.mono HP.out.bs))
    replace HP := Lib.hid (HP.out.below hb)
    clear hb hs1 S
    go_wp2
    go_ret
    exact ⟨rfl, HP.out, HB.out⟩
  | false =>
    rw [ho] at c4
    have e1 := size_on ho
    have e2 : safe d = (d.done.size : Int) := by unfold safe; rw [if_neg (by rw [ho]; simp)]
    have e3 := read_on ho
    rw [e1] at e3
    have hI : I64 ((all d).size : Int) := by have := OK.out.all; rw [all_size]; constructor <;> omega
    go_enter Tryd.func10, Tryd.ntmps10
    go_wp2_with fail
    obtain ⟨S, hs1, -, -⟩ := HP.out.own
    refine (hL.out b S d w hs1 OK.out).mono ?_
    rintro e w1 ⟨rfl, hb⟩
    rw [e1]
    replace HB := Lib.hid (HB.out.trans (hb.mono HP.out.bs))
    replace HP := Lib.hid (HP.out.below hb)
    clear hb hs1 S c4
    go_wp2_with fail
    obtain ⟨S, hs1, -, -⟩ := HP.out.own
    refine (hR.out b S d 0 ((all d).size : Int) w1 hs1 OK.out (by decide) hI).mono ?_
    rintro e w2 ⟨⟨x, rfl, hx⟩, hb⟩
    rw [e3] at hx ⊢
    obtain rfl := hx.zero rfl
    have h0 : SameS D B w b v d w2 := ⟨HP.out.below hb, HB.out.trans (hb.mono HP.out.bs)⟩
    have c0 := Lies.cell (i := 0) h0.pair.rd rfl
    have hd0 := Lib.hid (h0.below (Below.drew (Below.refl w2.heap.size w2)))
    replace h0 := Lib.hid h0
    clear hb hs1 S hx e1 e2 e3 hI HB HP
    go_wp2_with fail
    go_region_held3 (fun w' => SameS D B w b v d w' ∧ w'.cell? ⟨v, 0, none⟩ = some (.string d.done)) (first | exact hpn | exact hd0.out) (first
      | (go_at_call 31
         refine (down_pair (w0 := w) (B := B) (v := v) hD.out ho ?_).mono ?_
         assumption
         rintro e wn ⟨rfl, hpn⟩)
      | (go_at_call 20
         refine (all_pair (w0 := w) (D := D) (B := B) (b := b) (d := d) ?_).mono ?_
         assumption
         rintro e wn ⟨rfl, hpn⟩)
      | (go_at_call 15
         refine (len_pair (w0 := w) (d := d) (B := B) (v := v) hL.out ho ?_).mono ?_
         assumption
         rintro e wn ⟨rfl, hpn⟩)
      | (go_at_call 32
         refine (safe_pair (w0 := w) (d := d) (B := B) (v := v) hZ.out ho ?_).mono ?_
         assumption
         rintro e wn ⟨rfl, hpn⟩))
    have HN := Lib.hid hpn
    clear hpn
    go_wp2
    go_ret
    exact ⟨rfl, HN.out.1.pair, HN.out.1.bel⟩
end Go.Proofs.YtfdldjhndfohhaaDoor
