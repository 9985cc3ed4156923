/-
  The program's own reading of spelt bytes of chapter 9: gathered. No conditions but those typed.
-/
import Derived.Test.YtjijlfohlmhlkaaDoorFrameP4
namespace Go.Proofs.YtjijlfohlmhlkaaDoor
open Go.RowKit FrameMath TextNat CrcMath

set_option maxRecDepth 100000 in
theorem half (x : Nat) (h : x < 256) : x ^^^ 64 < 256 ∧ (x ^^^ 64 < 16 ↔ 64 ≤ x ∧ x < 80) ∧ (x ^^^ 64 < 16 → x ^^^ 64 = x - 64) := by
  have : ∀ x : Fin 256, x.val ^^^ 64 < 256 ∧ (x.val ^^^ 64 < 16 ↔ 64 ≤ x.val ∧ x.val < 80) ∧ (x.val ^^^ 64 < 16 → x.val ^^^ 64 = x.val - 64) := by decide
  exact this ⟨x, h⟩
set_option maxRecDepth 100000 in
theorem halves (u v : Nat) (hu : u < 16) (hv : v < 16) : bits .or .u8 ((16 * u : Nat) : Int) (v : Int) = ((16 * u + v : Nat) : Int) := by
  have : ∀ u v : Fin 16, bits .or .u8 ((16 * u.val : Nat) : Int) (v.val : Int) = ((16 * u.val + v.val : Nat) : Int) := by decide
  exact this ⟨u, hu⟩ ⟨v, hv⟩
/-- What gathered answers. -/
def GatherIs (B : Nat) (r : List Nat) (n : Nat) (e : Ending) (w' : World) : Prop :=
  if n ≤ (bytesOf r).length then ∃ g, e = .returned (.tuple #[.slice (some ⟨g, 0, none⟩) n n, .bool true]) ∧ Own8 w' B (.slice (some ⟨g, 0, none⟩) n n) ((bytesOf r).take n) else e = .returned (.tuple #[.slice none 0 0, .bool false])
theorem GatherIs.not {B : Nat} {r : List Nat} {n : Nat} {e : Ending} {w' : World} (h : ¬ n ≤ (bytesOf r).length) (he : e = .returned (.tuple #[.slice none 0 0, .bool false])) : GatherIs B r n e w' := by
  unfold GatherIs
  rw [if_neg h]
  exact he
theorem GatherIs.is {B : Nat} {r D : List Nat} {n g : Nat} {e : Ending} {w' : World} (hr : ReadTo r D) (hD : D.length = n) (ho : Own8 w' B (.slice (some ⟨g, 0, none⟩) n n) D) (he : e = .returned (.tuple #[.slice (some ⟨g, 0, none⟩) n n, .bool true])) : GatherIs B r n e w' := by
  unfold GatherIs
  unfold ReadTo at hr
  have h1 : n ≤ (bytesOf r).length := by rw [← hr, List.length_append]; omega
  have h2 : (bytesOf r).take n = D := by rw [← hr, ← hD, List.take_left' rfl]
  rw [if_pos h1, h2]
  exact ⟨g, he, ho⟩
set_option maxRecDepth 100000 in
set_option maxHeartbeats 8000000 in
theorem gathered_ok (s : ByteArray) (n : Nat) (w : World) (hs : s.size ≤ 100000) (hn : n ≤ 100000) :
    Calls Tryd.prog 30 #[.string s, .int .i64 (n : Int)] w fun e w' => GatherIs w.heap.size (nats s) n e w' ∧ Below w.heap.size w w' := by
  obtain ⟨z, hz⟩ : ∃ z, z = s.size := ⟨_, rfl⟩
  have e1 : (s.size : Int) = (z : Int) := by omega
  have HZ := Lib.hid hz
  obtain ⟨m, hm⟩ : ∃ m, m = 2 * n := ⟨_, rfl⟩
  have n1 : IntKind.i64.wrap (2 * (n : Int)) = (m : Int) := by rw [IntKind.wrap_i64]; omega
  obtain ⟨r, hr⟩ : ∃ r, r = nats s := ⟨_, rfl⟩
  have HRS := Lib.hid (show r.length = s.size by rw [hr, nats_len])
  have HAT := Lib.hid (show ∀ (q : Nat) (h : q < s.size), r[q]? = some (s[q]'h).toNat by intro q h; rw [hr]; exact nats_at s q h)
  have HBB := Lib.hid (bytesOf_len r)
  have HM := Lib.hid hm
  rw [← hr]
  have HB0 := Lib.hid (Below.refl w.heap.size w)
  clear hr
  by_cases h0 : z < m
  · have t1 : decide ((z : Int) < (m : Int)) = true := decide_eq_true (by omega)
    have t1' : decide (z < m) = true := decide_eq_true h0
    have HX := Lib.hid (show ¬ n ≤ (bytesOf r).length by have := HBB.out; have := HRS.out; omega)
    clear hz hm h0
    go_enter Tryd.func30, Tryd.ntmps30
    go_wp2
    go_ret2
    exact ⟨GatherIs.not HX.out rfl, HB0.out⟩
  · have t1 : decide ((z : Int) < (m : Int)) = false := decide_eq_false (by omega)
    have t1' : decide (z < m) = false := decide_eq_false h0
    have HMZ := Lib.hid (show m ≤ z by omega)
    have hmk := made8 n n (by omega) (Nat.le_refl _)
    obtain ⟨Z, hZ⟩ : ∃ Z, Z = (List.replicate n (Value.int .u8 0)).toArray := ⟨_, rfl⟩
    have O1 := Lib.hid (show Own8 (w.alloc (.cells Z 5)) w.heap.size (.slice (some ⟨w.heap.size, 0, none⟩) n n) (List.replicate n 0) by rw [hZ]; exact own_made8 n n (by omega) (Nat.le_refl _) w)
    have B1 := Lib.hid (show Below w.heap.size w (w.alloc (.cells Z 5)) from (Below.refl _ _).alloc (Nat.le_refl _) _)
    rw [← hZ] at hmk
    clear hz hm h0 hZ
    go_enter Tryd.func30, Tryd.ntmps30
    go_wp2_with fail
    obtain ⟨g, hg⟩ : ∃ g, g = w.heap.size := ⟨_, rfl⟩
    replace O1 := Lib.hid (show Own8 (w.alloc (.cells Z 5)) w.heap.size (.slice (some ⟨g, 0, none⟩) n n) ([] ++ List.replicate n 0) by rw [hg]; exact O1.out)
    rw [← hg]
    clear hg hmk HB0 t1 t1'
    go_loopg [19] n (fun gh s19 wx => ∃ (i k : Nat) (D : List Nat), k = gh ∧ D.length = i ∧ i + k = n ∧ s19 = .int .i64 (i : Int) ∧ ReadTo r D ∧ Own8 wx w.heap.size (.slice (some ⟨g, 0, none⟩) n n) (D ++ List.replicate k 0) ∧ Below w.heap.size w wx)
    case atStart => exact ⟨0, n, [], rfl, rfl, by omega, by go_num, ReadTo.start r, O1.out, B1.out⟩
    case round =>
      obtain ⟨i, kk, D, hkk, hD, hi, rfl, hread, hown, hb⟩ := hrel
      clear O1 B1
      rename World => W
      by_cases hin : i < n
      case neg =>
        have u1 : decide ((i : Int) < (n : Int)) = false := decide_eq_false (by omega)
        have u1' : decide (i < n) = false := decide_eq_false hin
        have HRD := Lib.hid hread
        have HOW := Lib.hid (show Own8 W w.heap.size (.slice (some ⟨g, 0, none⟩) n n) D by
          have h0 : kk = 0 := by omega
          rw [h0, List.replicate_zero, List.append_nil] at hown
          exact hown)
        have HDL := Lib.hid (show D.length = n by omega)
        have HB := Lib.hid hb
        clear hread hown hb hD hi hin
        go_wp2_with fail
        go_ret2
        exact ⟨GatherIs.is HRD.out HDL.out HOW.out rfl, HB.out⟩
      case pos =>
        obtain ⟨k, rfl⟩ : ∃ k, kk = k + 1 := ⟨kk - 1, by omega⟩
        have u1 : decide ((i : Int) < (n : Int)) = true := decide_eq_true (by omega)
        have u1' : decide (i < n) = true := decide_eq_true hin
        obtain ⟨q, hq⟩ : ∃ q, q = 2 * i := ⟨_, rfl⟩
        have hq1 : q + 1 < s.size := by have := HMZ.out; have := HM.out; have := HZ.out; omega
        have hq0 : q < s.size := by omega
        have k0 : IntKind.i64.wrap (2 * (i : Int)) = (q : Int) := by rw [IntKind.wrap_i64]; omega
        have k1 : IntKind.i64.wrap ((q : Int) + 1) = ((q + 1 : Nat) : Int) := by rw [IntKind.wrap_i64]; omega
        obtain ⟨x, hx⟩ : ∃ x, x = (s[q]'hq0).toNat := ⟨_, rfl⟩
        obtain ⟨y, hy⟩ : ∃ y, y = (s[q + 1]'hq1).toNat := ⟨_, rfl⟩
        have hxx : ((s[q]'hq0).toNat : Int) = (x : Int) := by rw [hx]
        have hyy : ((s[q + 1]'hq1).toNat : Int) = (y : Int) := by rw [hy]
        have hx256 : x < 256 := by rw [hx]; exact UInt8.toNat_lt _
        have hy256 : y < 256 := by rw [hy]; exact UInt8.toNat_lt _
        have hrx : r[2 * D.length]? = some x := by rw [hD, ← hq, hx]; exact HAT.out q hq0
        have hry : r[2 * D.length + 1]? = some y := by rw [hD, ← hq, hy]; exact HAT.out (q + 1) hq1
        obtain ⟨a, ha⟩ : ∃ a, a = x ^^^ 64 := ⟨_, rfl⟩
        obtain ⟨b, hbb⟩ : ∃ b, b = y ^^^ 64 := ⟨_, rfl⟩
        obtain ⟨ha256, ha1, ha2⟩ := half x hx256
        obtain ⟨hb256, hb1, hb2⟩ := half y hy256
        rw [← ha] at ha256 ha1 ha2
        rw [← hbb] at hb256 hb1 hb2
        have k2 : bits .xor .u8 (x : Int) 64 = (a : Int) := by rw [ha]; exact u8_xor_nat x 64 hx256 (by decide)
        have k3 : bits .xor .u8 (y : Int) 64 = (b : Int) := by rw [hbb]; exact u8_xor_nat y 64 hy256 (by decide)
        have HW := Lib.hid hown
        have HB := Lib.hid hb
        have HDD := Lib.hid hD
        by_cases hv : a < 16 ∧ b < 16
        case neg =>
          have HX := Lib.hid (show ¬ n ≤ (bytesOf r).length by
            rw [← hread.wrong hrx hry (by omega)]
            omega)
          by_cases hA : 15 < a
          case pos =>
            have u2 : decide ((15 : Int) < (a : Int)) = true := decide_eq_true (by omega)
            have u2' : decide (15 < a) = true := decide_eq_true hA
            clear hread hown hb hD hi hin ha hbb ha1 ha2 hb1 hb2 hrx hry hx hy hv hq hA
            go_wp2_with fail
            go_region
            go_wp2
            go_ret2
            exact ⟨GatherIs.not HX.out rfl, HB.out.drew⟩
          case neg =>
            have u2 : decide ((15 : Int) < (a : Int)) = false := decide_eq_false (by omega)
            have u2' : decide (15 < a) = false := decide_eq_false hA
            have u3 : decide ((15 : Int) < (b : Int)) = true := decide_eq_true (by omega)
            have u3' : decide (15 < b) = true := decide_eq_true (by omega)
            clear hread hown hb hD hi hin ha hbb ha1 ha2 hb1 hb2 hrx hry hx hy hv hq hA
            go_wp2_with fail
            go_region
            go_wp2
            go_ret2
            exact ⟨GatherIs.not HX.out rfl, HB.out.drew⟩
        case pos =>
          have u2 : decide ((15 : Int) < (a : Int)) = false := decide_eq_false (by omega)
          have u2' : decide (15 < a) = false := decide_eq_false (by omega)
          have u3 : decide ((15 : Int) < (b : Int)) = false := decide_eq_false (by omega)
          have u3' : decide (15 < b) = false := decide_eq_false (by omega)
          have HRN := Lib.hid (hread.next hrx hry (by omega))
          have hxa : 16 * (x - 64) = 16 * a := by have := ha2 (by omega); omega
          have hyb : y - 64 = b := by have := hb2 (by omega); omega
          rw [hxa, hyb] at HRN
          obtain ⟨c, hc⟩ : ∃ c, c = 16 * a := ⟨_, rfl⟩
          obtain ⟨d, hd⟩ : ∃ d, d = c + b := ⟨_, rfl⟩
          have k4 : IntKind.u8.wrap ((a : Int) * 16) = (c : Int) := by rw [IntKind.wrap_u8]; omega
          have k5 : bits .or .u8 (c : Int) (b : Int) = (d : Int) := by rw [hd, hc]; exact halves a b (by omega) (by omega)
          have HRD := Lib.hid (show ReadTo r (D ++ [d]) by rw [hd, hc]; exact HRN.out)
          obtain ⟨w2, hw2⟩ : ∃ w2, w2 = W.drew := ⟨_, rfl⟩
          have O2 := Lib.hid (show Own8 w2 w.heap.size (.slice (some ⟨g, 0, none⟩) n n) (D ++ List.replicate (k + 1) 0) by rw [hw2]; exact hown)
          have B2 := Lib.hid (show Below w.heap.size w w2 by rw [hw2]; exact hb.drew)
          have HW2 := Lib.hid hw2
          have HL := Lib.hid (show (D ++ List.replicate (k + 1) 0).set i d = (D ++ [d]) ++ List.replicate k 0 by
            rw [List.set_append_right _ _ (by omega), hD, Nat.sub_self, List.replicate_succ, List.set_cons_zero, List.append_assoc]
            rfl)
          have HKI := Lib.hid (show (D ++ [d]).length = i + 1 ∧ i + 1 + k = n by rw [List.length_append]; exact ⟨by simp; omega, by omega⟩)
          have HKG := Lib.hid hkk
          clear hread hown hb hD hi ha hbb ha1 ha2 hb1 hb2 hrx hry hx hy hv hq hc hd hxa hyb HRN hw2 hkk
          go_wp2_with fail
          go_region
          rw [← HW2.out]
          clear HW2 HW HB
          obtain ⟨-, hBg, hgl, hcl, hfr⟩ := O2.out.block
          have HBg := Lib.hid hBg
          have ci := hcl i 0 (by rw [List.getElem?_append_right (by have := HDD.out; omega), HDD.out, Nat.sub_self]; rfl)
          have fi := hfr i
          clear hcl hfr hBg
          have O3 := Lib.hid (show Own8 (w2.setCell ⟨g, i, none⟩ (.int .u8 (d : Int))) w.heap.size (.slice (some ⟨g, 0, none⟩) n n) ((D ++ [d]) ++ List.replicate k 0) by rw [← HL.out]; exact O2.out.set i d)
          have B3 := Lib.hid (own_store B2.out (g := g) (j := i) (v := .int .u8 (d : Int)) HBg.out)
          go_wp2_with fail
          go_roundg k
          case measure => have := HKG.out; omega
          case rel => exact ⟨i + 1, k, D ++ [d], rfl, HKI.out.1, HKI.out.2, by go_num, HRD.out, O3.out, B3.out⟩
end Go.Proofs.YtjijlfohlmhlkaaDoor
