/-
  The document's own device of chapter 8: Rot. The conditions: the device's cells.
-/
import Derived.Test.YtfdldjhndfohhaaDoorBlockRef3
import Derived.Test.YtfdldjhndfohhaaDoorGrow
namespace Go.Proofs.YtfdldjhndfohhaaDoor
open Go.RowKit BlockMath TextNat

theorem rot_byte (a b : Nat) (ha : a < 256) (hb : b < 256) : bits .xor .u8 (a : Int) (b : Int) = (((a ^^^ b) % 256 : Nat) : Int) := by
  have hx : a ^^^ b < 2 ^ 8 := Nat.xor_lt_two_pow (by omega) (by omega)
  show IntKind.u8.wrap ((BitVec.ofInt 8 (a : Int) ^^^ BitVec.ofInt 8 (b : Int)).toNat : Int) = _
  have h1 : (BitVec.ofInt 8 (a : Int)).toNat = a := by rw [BitVec.ofInt_natCast, BitVec.toNat_ofNat]; exact Nat.mod_eq_of_lt (by omega)
  have h2 : (BitVec.ofInt 8 (b : Int)).toNat = b := by rw [BitVec.ofInt_natCast, BitVec.toNat_ofNat]; exact Nat.mod_eq_of_lt (by omega)
  rw [BitVec.toNat_xor, h1, h2, IntKind.wrap_u8]
  omega
theorem rot_no {d : Dk} {n : Int} {c : Nat} (h : rotB n c d = false) : rotD n c d = d := by
  unfold rotD
  rw [if_neg (by rw [h]; simp)]
set_option maxRecDepth 100000 in
set_option maxHeartbeats 4000000 in
theorem refRot (v : Nat) (d : Dk) (n : Int) (c : Nat) (w : World) (h : Rd w v d) (ok : Ok d) (hn : I64 n) (hc : c < 256) :
    Calls Tryd.prog 30 #[ptr v, .int .i64 n, .int .u8 (c : Int)] w fun e w' => e = .returned (.bool (rotB n c d)) ∧ Rd w' v (rotD n c d) ∧ But v w w' := by
  have H := Lib.hid h
  have c0 := Lies.cell (i := 0) h rfl
  have c4 := Lies.cell (i := 4) h rfl
  have f0 := Lies.free h 0
  have kA := ok.all
  have hv := Lies.lt h
  clear h
  cases ho : d.off with
  | true =>
    rw [rotB_off n c ho, rotD_off n c ho]
    rw [ho] at c4
    go_enter Tryd.func30, Tryd.ntmps30
    go_wp2
    go_ret
    exact ⟨rfl, H.out, But.refl v w⟩
  | false =>
    rw [ho] at c4
    by_cases h0 : n < 0
    · have hb : rotB n c d = false := by unfold rotB; rw [decide_eq_false (show ¬ 0 ≤ n by omega)]; simp
      rw [rot_no hb, hb]
      have t0 : decide (n < 0) = true := decide_eq_true h0
      clear h0 hb
      go_enter Tryd.func30, Tryd.ntmps30
      go_wp2
      go_ret
      exact ⟨rfl, H.out, But.refl v w⟩
    have t0 : decide (n < 0) = false := decide_eq_false h0
    obtain ⟨m, rfl⟩ : ∃ m : Nat, n = (m : Int) := ⟨n.toNat, by omega⟩
    by_cases h1 : d.done.size ≤ m
    · have hb : rotB (m : Int) c d = false := by unfold rotB; rw [decide_eq_false (show ¬ (m : Int) < (d.done.size : Int) by omega)]; simp
      rw [rot_no hb, hb]
      have t1 : decide ((d.done.size : Int) ≤ (m : Int)) = true := decide_eq_true (by omega)
      have t1' : decide (d.done.size ≤ m) = true := decide_eq_true h1
      clear h0 h1 hb
      go_enter Tryd.func30, Tryd.ntmps30
      go_wp2
      go_ret
      exact ⟨rfl, H.out, But.refl v w⟩
    have t1 : decide ((d.done.size : Int) ≤ (m : Int)) = false := decide_eq_false (by omega)
    have t1' : decide (d.done.size ≤ m) = false := decide_eq_false h1
    by_cases h2 : c = 0
    · have hb : rotB (m : Int) c d = false := by unfold rotB; rw [decide_eq_true h2]; simp
      rw [rot_no hb, hb]
      subst h2
      clear h0 h1 hb
      go_enter Tryd.func30, Tryd.ntmps30
      go_wp2
      go_ret
      exact ⟨rfl, H.out, But.refl v w⟩
    have t2 : ((c : Int) == 0) = false := by rw [beq_eq_false_iff_ne]; omega
    have hb : rotB (m : Int) c d = true := by unfold rotB; rw [ho, decide_eq_true (show 0 ≤ (m : Int) by omega), decide_eq_true (show (m : Int) < (d.done.size : Int) by omega), decide_eq_false h2]; rfl
    have hm : m < d.done.size := by omega
    obtain ⟨x, hx⟩ : ∃ x, x = (d.done[m]'hm).toNat := ⟨_, rfl⟩
    have hxx : ((d.done[m]'hm).toNat : Int) = (x : Int) := by rw [hx]
    have hx256 : x < 256 := by rw [hx]; exact UInt8.toNat_lt _
    have hat := nats_at d.done m hm
    rw [← hx] at hat
    have hrot : rotD (m : Int) c d = { d with done := d.done.extract 0 m ++ txt [(x ^^^ c) % 256] ++ d.done.extract (m + 1) d.done.size } := by
      unfold rotD
      rw [if_pos hb, show (m : Int).toNat = m by omega, hat]
      rfl
    rw [hrot, hb]
    obtain ⟨z, hz⟩ : ∃ z, z = (x ^^^ c) % 256 := ⟨_, rfl⟩
    have hz256 : z < 256 := by omega
    have ke : bits .xor .u8 (x : Int) (c : Int) = (z : Int) := by rw [hz]; exact rot_byte x c hx256 hc
    rw [← hz]
    have n1 : IntKind.i64.wrap ((m : Int) + 1) = (m : Int) + 1 := by rw [IntKind.wrap_i64]; omega
    have kw := text_row (w.alloc (.cells #[.int .u8 (z : Int)] 5)).drew w.heap.size 1 [z] (by simpa using hz256) (fun j hj => by
      simp at hj
      subst hj
      show (w.alloc (.cells #[.int .u8 (z : Int)] 5)).cell? _ = _
      rw [World.cell?_alloc_at _ _ _ _ (by simp)]
      rfl)
    have kw : (convert 46 9 (.slice (some ⟨w.heap.size, 0, none⟩) 1 1)).run Tryd.prog (w.alloc (.cells #[.int .u8 (z : Int)] 5)).drew = .ok (.string (txt [z])) (w.alloc (.cells #[.int .u8 (z : Int)] 5)).drew := kw
    have hm0 : m ≤ d.done.size := by omega
    have hm1 : m + 1 ≤ d.done.size := by omega
    have e1 : (d.done.extract 0 m).size = m := by rw [ByteArray.size_extract]; omega
    have e2 : (txt [z]).size = 1 := by rw [txt_len]; rfl
    have e3 : (d.done.extract (m + 1) d.done.size).size ≤ 1048576 := by rw [ByteArray.size_extract]; omega
    clear h0 h1 h2 hb hat hrot hz hx ok
    go_enter Tryd.func30, Tryd.ntmps30
    go_wp2_with fail
    have hg := rd_set (d' := { d with done := d.done.extract 0 m ++ txt [z] ++ d.done.extract (m + 1) d.done.size }) H.out (i := 0) (x := .string (d.done.extract 0 m ++ txt [z] ++ d.done.extract (m + 1) d.done.size)) rfl
    have hal : Below (w.setCell ⟨v, 0, none⟩ (.string (d.done.extract 0 m ++ txt [z] ++ d.done.extract (m + 1) d.done.size))).heap.size (w.setCell ⟨v, 0, none⟩ (.string (d.done.extract 0 m ++ txt [z] ++ d.done.extract (m + 1) d.done.size))) ((w.setCell ⟨v, 0, none⟩ (.string (d.done.extract 0 m ++ txt [z] ++ d.done.extract (m + 1) d.done.size))).alloc (.cells #[.int .u8 (z : Int)] 5)) := (Below.refl _ _).alloc (Nat.le_refl _) _
    have HG := Lib.hid (hg.below hal)
    have HB := Lib.hid (((But.set v 0 w (.string (d.done.extract 0 m ++ txt [z] ++ d.done.extract (m + 1) d.done.size))).trans (But.of (pb := v) hal)).drew)
    clear hg
    clear hal
    go_region
    go_wp2
    go_ret
    exact ⟨rfl, HG.out, HB.out⟩
end Go.Proofs.YtfdldjhndfohhaaDoor
