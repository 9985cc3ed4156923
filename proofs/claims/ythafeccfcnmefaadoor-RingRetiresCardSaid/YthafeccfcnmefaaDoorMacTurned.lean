/-
  The contracts of mac's start and turned: the first words; a key with each byte turned. The conditions: 64 numbers below 256.
-/
import Derived.Test.YthafeccfcnmefaaDoorMacSmall
import Derived.Test.YthafeccfcnmefaaDoorArr
namespace Go.Proofs.YthafeccfcnmefaaDoor
open Go.RowKit ShaMath TextNat

theorem infoArr8 : (Tryd.prog.info? 73).map (·.size) = some 8 := by kernel_rfl
theorem infoArr64 : (Tryd.prog.info? 69).map (·.size) = some 64 := by kernel_rfl
theorem infoWords64 : (Tryd.prog.info? 82).map (·.size) = some 64 := by kernel_rfl

theorem natVals_one (k : IntKind) (l : List Nat) : (natVals k l).toArray.all (·.oneCell') = true := by
  rw [Array.all_eq_true_iff_forall_mem]
  intro v hv
  obtain ⟨z, _, rfl⟩ := List.mem_map.1 (by simpa [natVals] using hv)
  rfl

theorem start_any (w : World) : Calls Tryd.prog 29 #[] w fun e w' => e = .returned (natsVal .u32 r0.list) ∧ Below w.heap.size w w' := by
  have HB := (Below.refl w.heap.size w).alloc (Nat.le_refl _) (.cells (natVals .u32 r0.list).toArray 73)
  go_enter Tryd.func29, Tryd.ntmps29
  go_wp2
  refine bodyPost_ret (results_cell_row Tryd.results29 _ _ w.heap.size 73 (natVals .u32 r0.list).toArray (0, 0) _ rfl (heap_alloc_new w _) Tryd.underlying73 rfl infoArr8) rfl ?_
  exact ⟨rfl, HB⟩

/-- The first i numbers turned. -/
def turnedTo (k : List Nat) (c i : Nat) : List Nat := (k.take i).map (· ^^^ c) ++ k.drop i
theorem turnedTo_zero (k : List Nat) (c : Nat) : turnedTo k c 0 = k := by simp [turnedTo]
theorem turnedTo_all (k : List Nat) (c i : Nat) (h : k.length ≤ i) : turnedTo k c i = k.map (· ^^^ c) := by
  unfold turnedTo
  rw [List.take_of_length_le h, List.drop_of_length_le h, List.append_nil]
theorem turnedTo_len (k : List Nat) (c i : Nat) : (turnedTo k c i).length = k.length := by simp [turnedTo]; omega
theorem turnedTo_at (k : List Nat) (c i : Nat) (h : i < k.length) : (turnedTo k c i)[i]? = some (k.getD i 0) := by
  unfold turnedTo
  rw [List.getElem?_append_right (by simp; omega)]
  simp [List.getD, h, show i - min i k.length = 0 by omega]
theorem turnedTo_succ (k : List Nat) (c i : Nat) (h : i < k.length) : (turnedTo k c i).set i (k.getD i 0 ^^^ c) = turnedTo k c (i + 1) := by
  have hd : k.getD i 0 = k[i] := by simp [List.getD, h]
  unfold turnedTo
  rw [List.set_append_right _ _ (by simp; omega), List.drop_eq_getElem_cons h]
  simp only [List.length_map, List.length_take, show i - min i k.length = 0 by omega, List.set_cons_zero]
  rw [List.take_add_one, List.getElem?_eq_getElem h, hd, List.map_append, List.append_assoc]
  rfl

set_option maxRecDepth 100000 in
theorem turned_any (k : List Nat) (c : Nat) (w : World) (hk : k.length = 64) (hlt : ∀ b ∈ k, b < 256) (hc : c < 256) :
    Calls Tryd.prog 30 #[natsVal .u8 k, .int .u8 (c : Int)] w fun e w' => e = .returned (natsVal .u8 (k.map (· ^^^ c))) ∧ Below w.heap.size w w' := by
  have H1 := (Arr.new w 69 .u8 k).alloc (.cells (natVals .u8 (List.replicate 64 0)).toArray 69)
  have H2 := Arr.new (w.alloc (.cells (natVals .u8 k).toArray 69)) 69 .u8 (List.replicate 64 0)
  rw [World.size_alloc] at H2
  have H3 := ((Below.refl w.heap.size w).alloc (Nat.le_refl _) (.cells (natVals .u8 k).toArray 69)).alloc (by simp) (.cells (natVals .u8 (List.replicate 64 0)).toArray 69)
  obtain ⟨k', hk'⟩ : ∃ k', k' = turnedTo k c 0 := ⟨_, rfl⟩
  have hkk : k = k' := by rw [hk', turnedTo_zero]
  have HR := Lib.hid (turnedTo_all k c 64 (by omega))
  unfold natsVal
  obtain ⟨C, hC⟩ : ∃ C, C = (natVals .u8 k).toArray := ⟨_, rfl⟩
  rw [← hC] at H1 H2 H3 ⊢
  rw [hkk, hk'] at H1
  have K1 := Lib.hid H1
  have K2 := Lib.hid H2
  have K3 := Lib.hid H3
  have KL := Lib.hid hlt
  clear hC hkk hk' H1 H2 H3 hlt
  go_enter Tryd.func30, Tryd.ntmps30
  go_wp2
  go_loopg [6] 64 (fun gh s6 wx => ∃ i : Nat, i + gh = 64 ∧ s6 = .int .i64 (i : Int) ∧ Hid (Arr w.heap.size 69 .u8 (turnedTo k c i) wx) ∧ Hid (Arr (w.heap.size + 1) 69 .u8 (List.replicate 64 0) wx) ∧ Below w.heap.size w wx)
  case atStart => exact ⟨0, rfl, by go_num, K1, K2, K3.out⟩
  case round =>
    obtain ⟨i, hi, rfl, ha, hz, hb⟩ := hrel
    clear K1 K2 K3
    by_cases h64 : i < 64
    · have h64' : (i : Int) < 64 := by omega
      obtain ⟨z, hzz⟩ : ∃ z, z = k.getD i 0 := ⟨_, rfl⟩
      have hz8 : z < 256 := by
        rw [hzz, List.getD_eq_getElem?_getD, List.getElem?_eq_getElem (by omega)]
        exact KL.out _ (List.getElem_mem _)
      obtain ⟨u, hu⟩ : ∃ u, u = z ^^^ c := ⟨_, rfl⟩
      have e1 : bits .xor .u8 (z : Int) (c : Int) = (u : Int) := by rw [hu]; exact u8_xor_nat z c hz8 hc
      have c1 := ha.out.cell (turnedTo_at k c i (by omega))
      rw [← hzz] at c1
      have f1 := ha.out.free i
      have HS := Lib.hid (ha.out.set i u)
      have HO := Lib.hid (hz.out.other ⟨w.heap.size, i, none⟩ (.int .u8 (u : Int)) (by simp))
      have HT := Lib.hid (show (turnedTo k c i).set i u = turnedTo k c (i + 1) by rw [hu, hzz]; exact turnedTo_succ k c i (by omega))
      have HB := Lib.hid (hb.setCell (p := ⟨w.heap.size, i, none⟩) (Nat.le_refl _) (.int .u8 (u : Int)))
      clear ha hz hb hzz hu
      go_wp2
      go_roundg (64 - (i + 1))
      case measure => omega
      case rel => exact ⟨i + 1, by omega, by go_num, by rw [← HT.out]; exact HS, HO, HB.out⟩
    · obtain rfl : i = 64 := by omega
      rw [HR.out] at ha
      have HA := Lib.hid ha.out
      have HZ := Lib.hid hz.out
      have HB := Lib.hid hb
      obtain ⟨D, hD⟩ : ∃ D, D = (natVals .u8 (k.map (· ^^^ c))).toArray := ⟨_, rfl⟩
      have hsz : D.size = 64 := by rw [hD]; simp [natVals_len, hk]
      have hone : D.all (·.oneCell') = true := by rw [hD]; exact natVals_one _ _
      have HAD : Hid (wr.heap[w.heap.size]? = some (.cells D 69 (0, 0))) := Lib.hid (by rw [hD]; exact HA.out)
      have HZD : Hid (wr.heap[w.heap.size + 1]? = some (.cells (natVals .u8 (List.replicate 64 0)).toArray 69 (0, 0))) := HZ
      have HRD := Lib.hid (setRow_heap wr (w.heap.size + 1) _ D _ _ HZD.out)
      have HBD := Lib.hid (below_setRow HB.out (Nat.le_succ w.heap.size) D)
      have HDV := Lib.hid hD
      clear ha hz hb hD HA HZ
      go_wp2_with (first
        | (refine wpList_load_row rfl 69 _ rfl w.heap.size rfl 69 D (0, 0) _ HAD.out Tryd.underlying69 rfl (by rw [hsz]; exact infoArr64) ?_)
        | (refine wpList_store_row rfl 69 _ _ rfl (w.heap.size + 1) D rfl rfl 69 _ HZD.out (by rw [hsz]; exact infoArr64) (by rw [hsz]; simp [natVals_len]) hone ?_))
      refine bodyPost_ret (results_cell_row Tryd.results30 _ _ (w.heap.size + 1) 69 D (0, 0) _ rfl HRD.out Tryd.underlying69 rfl (by rw [hsz]; exact infoArr64)) rfl ?_
      exact ⟨by rw [HDV.out], HBD.out⟩
end Go.Proofs.YthafeccfcnmefaaDoor
