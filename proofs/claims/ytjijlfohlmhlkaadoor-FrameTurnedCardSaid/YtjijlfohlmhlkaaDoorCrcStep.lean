/-
  The contract of crc.Step: from a sum and a byte to the sum with that byte behind; memory is as it was. The condition: the two tables hold what the program's text lays there.
-/
import Derived.Test.YtjijlfohlmhlkaaDoorProg
import Derived.Test.YtjijlfohlmhlkaaDoorCrcMath
import Derived.WalkKit
import Derived.Handy
import Derived.Outline
import Derived.Lib.Hide
import Derived.Below
import Derived.BigQuiet
import Derived.Laws.BitsAllLaws
namespace Go.Proofs.YtjijlfohlmhlkaaDoor
open Go.RowKit CrcMath

/-- What a byte's lower four bits come to. -/
def lowT : List Nat := [0, 4067132163, 3778769143, 324072436, 3348797215, 904991772, 648144872, 3570033899, 2329499855, 2024987596, 1809983544, 2575936315, 1296289744, 3207089363, 2893594407, 1578318884]
/-- What its upper four bits come to. -/
def highT : List Nat := [0, 274646895, 549293790, 820201905, 1098587580, 1361435347, 1640403810, 1905808397, 2197175160, 2460548119, 2722870694, 2987750089, 3280807620, 3553878443, 3811616794, 4084100981]

set_option maxRecDepth 100000 in
theorem tables_all : (List.range 256).all (fun i => bitsStep 8 i 0 == (lowT.getD (i % 16) 0 ^^^ highT.getD (i / 16) 0)) = true := by decide
theorem tables_byte (i : Nat) (h : i < 256) : bitsStep 8 i 0 = (lowT.getD (i % 16) 0 ^^^ highT.getD (i / 16) 0) := by
  have h1 := List.all_eq_true.1 tables_all i (List.mem_range.2 h)
  exact eq_of_beq h1
theorem low_lt : ∀ i, i < 16 → lowT.getD i 0 < 4294967296 := by decide
theorem high_lt : ∀ i, i < 16 → highT.getD i 0 < 4294967296 := by decide

/-- The two tables lie as the program's text lays them. -/
structure Tables (w : World) : Prop where
  low : ∀ i, i < 16 → w.cell? ⟨1, i, none⟩ = some (.int .u32 (lowT.getD i 0 : Nat))
  high : ∀ i, i < 16 → w.cell? ⟨2, i, none⟩ = some (.int .u32 (highT.getD i 0 : Nat))
theorem Tables.below {w w' : World} {B : Nat} (h : Tables w) (hb : Below B w w') (h0 : 1 < B) (h1 : 2 < B) : Tables w' :=
  ⟨fun i hi => (hb.cell (p := ⟨1, i, none⟩) h0).trans (h.low i hi), fun i hi => (hb.cell (p := ⟨2, i, none⟩) h1).trans (h.high i hi)⟩
theorem Tables.drewN {w : World} (h : Tables w) (n : Nat) : Tables (w.drewN n) := ⟨h.low, h.high⟩
theorem Tables.lt {w : World} (h : Tables w) : 1 < w.heap.size ∧ 2 < w.heap.size :=
  ⟨World.block_lt_of_cell? w _ (h.low 0 (by decide)), World.block_lt_of_cell? w _ (h.high 0 (by decide))⟩
theorem Tables.grown {w w' : World} (h : Tables w) (hb : Below w.heap.size w w') : Tables w' := h.below hb h.lt.1 h.lt.2

/-- The text's own way to the step. -/
theorem step_text (s c : Nat) (hc : c < 256) : CrcMath.step s c = (4294967295 ^^^ (((4294967295 ^^^ s) / 256 ^^^ lowT.getD (((4294967295 ^^^ s) % 256 ^^^ c) % 16) 0) ^^^ highT.getD (((4294967295 ^^^ s) % 256 ^^^ c) / 16) 0)) := by
  have hi : ((4294967295 ^^^ s) % 256 ^^^ c) < 256 := Nat.xor_lt_two_pow (n := 8) (Nat.mod_lt _ (by decide)) hc
  have e : ((4294967295 ^^^ s) ^^^ c) % 256 = ((4294967295 ^^^ s) % 256 ^^^ c) := by
    have := Nat.xor_mod_two_pow (a := 4294967295 ^^^ s) (b := c) (n := 8)
    rw [show (2 : Nat) ^ 8 = 256 from rfl, Nat.mod_eq_of_lt hc] at this
    exact this
  unfold CrcMath.step
  rw [byteStep_table _ c hc, e, tables_byte _ hi]
  congr 1
  rw [Nat.xor_comm, ← Nat.xor_assoc]

set_option maxHeartbeats 4000000 in
theorem step_walk (s c : Nat) (w : World) (hs : s < 4294967296) (hc : c < 256) (hT : Tables w) :
    Calls Tryd.prog 41 #[.int .u32 (s : Int), .int .u8 (c : Int)] w fun e w' => e = .returned (.int .u32 (CrcMath.step s c : Nat)) ∧ ∃ n, w' = w.drewN n := by
  obtain ⟨L, hL⟩ : ∃ L, L = 4294967295 ^^^ s := ⟨_, rfl⟩
  obtain ⟨I, hI⟩ : ∃ I, I = L % 256 ^^^ c := ⟨_, rfl⟩
  obtain ⟨J, hJ⟩ : ∃ J, J = I % 16 := ⟨_, rfl⟩
  obtain ⟨K, hK⟩ : ∃ K, K = I / 16 := ⟨_, rfl⟩
  obtain ⟨x, hx⟩ : ∃ x, x = lowT.getD J 0 := ⟨_, rfl⟩
  obtain ⟨y, hy⟩ : ∃ y, y = highT.getD K 0 := ⟨_, rfl⟩
  obtain ⟨M, hM⟩ : ∃ M, M = L / 256 ^^^ x := ⟨_, rfl⟩
  obtain ⟨R, hR⟩ : ∃ R, R = M ^^^ y := ⟨_, rfl⟩
  obtain ⟨Z, hZ⟩ : ∃ Z, Z = 4294967295 ^^^ R := ⟨_, rfl⟩
  have lL : L < 4294967296 := by rw [hL]; exact Nat.xor_lt_two_pow (n := 32) (by decide) hs
  have lI : I < 256 := by rw [hI]; exact Nat.xor_lt_two_pow (n := 8) (Nat.mod_lt _ (by decide)) hc
  have lJ : J < 16 := by omega
  have lK : K < 16 := by omega
  have lx : x < 4294967296 := by rw [hx]; exact low_lt J lJ
  have ly : y < 4294967296 := by rw [hy]; exact high_lt K lK
  have lM : M < 4294967296 := by rw [hM]; exact Nat.xor_lt_two_pow (n := 32) (by omega) lx
  have lR : R < 4294967296 := by rw [hR]; exact Nat.xor_lt_two_pow (n := 32) lM ly
  have lZ : Z < 4294967296 := by rw [hZ]; exact Nat.xor_lt_two_pow (n := 32) (by decide) lR
  have hstep : CrcMath.step s c = Z := by
    rw [step_text s c hc, ← hL, ← hI, ← hJ, ← hK, ← hx, ← hy, ← hM, ← hR, ← hZ]
  have c0 := hT.low J lJ
  have c1 := hT.high K lK
  rw [← hx] at c0
  rw [← hy] at c1
  rw [hstep]
  have hmax : IntKind.u32.max = 4294967295 := rfl
  have e1 : bits .xor .u32 IntKind.u32.max (s : Int) = (L : Int) := by
    rw [hL, hmax]; exact u32_xor_nat 4294967295 s (by decide) hs
  have e2 : bits .xor .u8 ((L : Int) % 256) (c : Int) = (I : Int) := by
    rw [hI]; exact u8_xor_nat (L % 256) c (Nat.mod_lt _ (by decide)) hc
  have e3 : bits .and .u8 (I : Int) 15 = (J : Int) := by
    have := u8_and_nat I 15 lI (by decide)
    rw [show I &&& 15 = I % 16 from Nat.and_two_pow_sub_one_eq_mod I 4, ← hJ] at this
    exact this
  have e4 : (I : Int) / 16 = (K : Int) := by omega
  have e5 : bits .xor .u32 ((L : Int) / 256) (x : Int) = (M : Int) := by
    rw [hM]; exact u32_xor_nat (L / 256) x (by omega) lx
  have e6 : bits .xor .u32 (M : Int) (y : Int) = (R : Int) := by
    rw [hR]; exact u32_xor_nat M y lM ly
  have e7 : bits .xor .u32 IntKind.u32.max (R : Int) = (Z : Int) := by
    rw [hZ, hmax]; exact u32_xor_nat 4294967295 R (by decide) lR
  have k0 : (J : Int) < 16 := by omega
  have k1 : (K : Int) < 16 := by omega
  clear hmax hT hL hI hJ hK hx hy hM hR hZ hstep
  go_enter Tryd.func41, Tryd.ntmps41
  go_wp2
  go_quiet (fail)
  go_wp2
  go_ret
  exact ⟨rfl, _, rfl⟩
end Go.Proofs.YtjijlfohlmhlkaaDoor
