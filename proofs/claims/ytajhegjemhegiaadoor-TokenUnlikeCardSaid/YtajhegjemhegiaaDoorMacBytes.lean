/-
  The contract of mac's bytesOf: the bytes of eight words. The conditions: numbers below 2^32.
-/
import Derived.Test.YtajhegjemhegiaaDoorPart02
import Derived.Test.YtajhegjemhegiaaDoorPart12
import Derived.Test.YtajhegjemhegiaaDoorRefBlock
import Derived.Laws.IdiomStrings
import Derived.Outline
import Derived.StillTailTactics
import Derived.BigQuiet
namespace Go.Proofs.YtajhegjemhegiaaDoor
open Go.RowKit ShaMath TextNat

/-- Some bytes at the front of 32. -/
def pad32 (l : List Nat) : List Nat := l ++ List.replicate (32 - l.length) 0
theorem pad32_set (l : List Nat) (x : Nat) (h : l.length < 32) : (pad32 l).set l.length x = pad32 (l ++ [x]) := by
  unfold pad32
  rw [List.set_append_right _ _ (Nat.le_refl _), Nat.sub_self, List.length_append, List.append_assoc]
  congr 1
  obtain ⟨n, hn⟩ : ∃ n, 32 - l.length = n + 1 := ⟨31 - l.length, by omega⟩
  rw [hn, show 32 - (l.length + [x].length) = n by simp; omega, List.replicate_succ]
  rfl
theorem pad32_len (l : List Nat) (h : l.length ≤ 32) : (pad32 l).length = 32 := by simp [pad32]; omega

theorem flat_at : ∀ (l : List Nat) (q m : Nat), m < 4 → (l.flatMap four)[4 * q + m]? = (l[q]?).bind fun z => (four z)[m]?
  | [], q, m, _ => by simp
  | a :: l, 0, m, h => by
    rw [List.flatMap_cons, List.getElem?_append_left (by rw [four_len]; omega)]
    simp
  | a :: l, q + 1, m, h => by
    rw [List.flatMap_cons, List.getElem?_append_right (by rw [four_len]; omega), four_len, show 4 * (q + 1) + m - 4 = 4 * q + m by omega, flat_at l q m h]
    simp
theorem four_at (z m : Nat) (h : m < 4) : (four z)[m]? = some (z / 2 ^ (24 - 8 * m) % 256) := by
  have : m = 0 ∨ m = 1 ∨ m = 2 ∨ m = 3 := by omega
  rcases this with rfl | rfl | rfl | rfl <;> simp [four]
theorem infoArr32 : (Tryd.prog.info? 141).map (·.size) = some 32 := by kernel_rfl

set_option maxRecDepth 100000 in
set_option maxHeartbeats 4000000 in
theorem bytesOf_any (r : Regs) (hr : r.Ok) (w : World) :
    Calls Tryd.prog 78 #[natsVal .u32 r.list] w fun e w' => e = .returned (.string (txt (r.list.flatMap four))) ∧ Below w.heap.size w w' := by
  have hl8 : r.list.length = 8 := rfl
  have hlt : ∀ z ∈ r.list, z < 4294967296 := by
    intro z hz
    simp only [Regs.list, List.mem_cons, List.not_mem_nil, or_false] at hz
    obtain ⟨h1, h2, h3, h4, h5, h6, h7, h8⟩ := hr
    rcases hz with rfl | rfl | rfl | rfl | rfl | rfl | rfl | rfl <;> assumption
  obtain ⟨l, hl⟩ : ∃ l, l = r.list := ⟨_, rfl⟩
  rw [← hl] at hl8 hlt ⊢
  obtain ⟨B, hBd⟩ : ∃ B, B = l.flatMap four := ⟨_, rfl⟩
  have hBl : B.length = 32 := by rw [hBd, hl]; rfl
  have hB8 : ∀ b ∈ B, b < 256 := by
    rw [hBd]
    intro b hb
    obtain ⟨x, _, h⟩ := List.mem_flatMap.1 hb
    exact four_lt x b h
  have H0 := (Arr.new w 116 .u32 l).alloc (.cells (natVals .u8 (pad32 (B.take 0))).toArray 141)
  have H1 := Arr.new (w.alloc (.cells (natVals .u32 l).toArray 116)) 141 .u8 (pad32 (B.take 0))
  rw [World.size_alloc] at H1
  have H2 := ((Below.refl w.heap.size w).alloc (Nat.le_refl _) (.cells (natVals .u32 l).toArray 116)).alloc (by simp) (.cells (natVals .u8 (pad32 (B.take 0))).toArray 141)
  unfold natsVal
  obtain ⟨D, hD⟩ : ∃ D, D = (natVals .u32 l).toArray := ⟨_, rfl⟩
  rw [← hD] at H0 H1 H2
  rw [← hD, ← hBd]
  have K0 := Lib.hid H0
  have K1 := Lib.hid H1
  have K2 := Lib.hid H2
  have HBD := Lib.hid hBd
  have HB8 := Lib.hid hB8
  have HLT := Lib.hid hlt
  clear hD H0 H1 H2 hBd hB8 hlt hl hr
  go_enter Tryd.func78, Tryd.ntmps78
  go_wp2_with fail
  go_loopg [5] 32 (fun gh s5 wx => ∃ i : Nat, i + gh = 32 ∧ s5 = .int .i64 (i : Int) ∧ Hid (Arr w.heap.size 116 .u32 l wx) ∧ Hid (Arr (w.heap.size + 1) 141 .u8 (pad32 (B.take i)) wx) ∧ Below w.heap.size w wx)
  case atStart => exact ⟨0, rfl, by go_num, K0, K1, K2.out⟩
  case round =>
    obtain ⟨i, hi, rfl, h0, h1, hb⟩ := hrel
    clear K0 K1 K2
    by_cases h32 : i < 32
    · have h32' : (i : Int) < 32 := by omega
      have hi0 : 0 ≤ (i : Int) := by omega
      obtain ⟨q, hq⟩ : ∃ q, q = i / 4 := ⟨_, rfl⟩
      obtain ⟨m, hm⟩ : ∃ m, m = i % 4 := ⟨_, rfl⟩
      have hm4 : m < 4 := by omega
      obtain ⟨z, hz⟩ : ∃ z, l[q]? = some z := ⟨_, List.getElem?_eq_getElem (by omega)⟩
      obtain ⟨x, hx⟩ : ∃ x, x = z / 2 ^ (24 - 8 * m) % 256 := ⟨_, rfl⟩
      have hBi : B[i]? = some x := by
        rw [HBD.out, show i = 4 * q + m by omega, flat_at _ _ _ hm4, hz, hx, ← four_at z m hm4]
        rfl
      have hzl := HLT.out z (List.mem_of_getElem? hz)
      have HX := Lib.hid (show (pad32 (B.take i)).set i x = pad32 (B.take (i + 1)) by
        have h := pad32_set (B.take i) x (by rw [List.length_take]; omega)
        rw [List.length_take, show min i B.length = i by omega] at h
        rw [h, List.take_add_one, hBi]
        rfl)
      have c0 := h0.out.cell hz
      have f1 := h1.out.free i
      have d1 := h1.out.cellD (i := i) (by rw [pad32_len _ (by rw [List.length_take]; omega)]; omega)
      have HS := Lib.hid (h1.out.set i x)
      have HS0 := Lib.hid (h0.out.other ⟨w.heap.size + 1, i, none⟩ (.int .u8 (x : Int)) (by simp))
      have HB := Lib.hid (hb.setCell (p := ⟨w.heap.size + 1, i, none⟩) (by simp) (.int .u8 (x : Int)))
      have k1 : (i : Int) / 4 = (q : Int) := by omega
      have k2 : (i : Int) % 4 = (m : Int) := by omega
      have k3 : (q : Int) < 8 := by omega
      have k4 : 0 ≤ (q : Int) := by omega
      have hs : m = 0 ∧ IntKind.u8.wrap ((z : Int) / 16777216) = (x : Int) ∨ m = 1 ∧ IntKind.u8.wrap ((z : Int) / 65536) = (x : Int) ∨ m = 2 ∧ IntKind.u8.wrap ((z : Int) / 256) = (x : Int) ∨ m = 3 ∧ IntKind.u8.wrap (z : Int) = (x : Int) := by
        have : m = 0 ∨ m = 1 ∨ m = 2 ∨ m = 3 := by omega
        rcases this with h | h | h | h
        · left; refine ⟨h, ?_⟩; rw [IntKind.wrap_u8, hx, h]; simp
        · right; left; refine ⟨h, ?_⟩; rw [IntKind.wrap_u8, hx, h]; simp
        · right; right; left; refine ⟨h, ?_⟩; rw [IntKind.wrap_u8, hx, h]; simp
        · right; right; right; refine ⟨h, ?_⟩; rw [IntKind.wrap_u8, hx, h]; simp
      have fin : ∃ i' : Nat, i' + (32 - (i + 1)) = 32 ∧ Value.int .i64 ((i : Int) + 1) = .int .i64 (i' : Int) ∧ Hid (Arr w.heap.size 116 .u32 l (wr.setCell ⟨w.heap.size + 1, i, none⟩ (.int .u8 (x : Int)))) ∧ Hid (Arr (w.heap.size + 1) 141 .u8 (pad32 (B.take i')) (wr.setCell ⟨w.heap.size + 1, i, none⟩ (.int .u8 (x : Int)))) ∧ Below w.heap.size w (wr.setCell ⟨w.heap.size + 1, i, none⟩ (.int .u8 (x : Int))) :=
        ⟨i + 1, by omega, by go_num, HS0, by rw [← HX.out]; exact HS, HB.out⟩
      have FIN := Lib.hid fin
      clear h0 h1 hb hx hBi hz fin hq hm hm4
      rcases hs with ⟨rfl, kx⟩ | ⟨rfl, kx⟩ | ⟨rfl, kx⟩ | ⟨rfl, kx⟩
      all_goals
        go_wp2
        go_roundg (32 - (i + 1))
        case measure => omega
        case rel => exact FIN.out
    · obtain rfl : i = 32 := by omega
      have ht : B.take 32 = B := List.take_of_length_le (by omega)
      rw [ht, show pad32 B = B by simp [pad32, hBl]] at h1
      have hcv := text_any wr (w.heap.size + 1) 32 B HB8.out (fun j hj => by
        rw [h1.out.cellD hj, byteVals_at, List.getElem?_eq_getElem hj]
        simp [List.getD, hj])
      rw [hBl] at hcv
      have HB := Lib.hid hb
      clear h0 h1 hb ht
      go_wp2
      go_ret
      exact ⟨rfl, HB.out⟩
end Go.Proofs.YtajhegjemhegiaaDoor
