/-
  The contracts of the document's own Tag and Derive of chapter 3: the standard's tag, the key of a number; old memory is as it was. The condition: texts of at most 5,000 bytes.
-/
import Derived.Test.YthafeccfcnmefaaDoorRefDigest
namespace Go.Proofs.YthafeccfcnmefaaDoor
open Go.RowKit ShaMath TextNat

theorem nats_at (s : ByteArray) (i : Nat) (h : i < s.size) : (nats s)[i]? = some (s[i].toNat) := by
  rw [nats, List.getElem?_map]
  have e : s.data.toList[i]? = some s[i] := by
    rw [Array.getElem?_toList]
    exact Array.getElem?_eq_getElem h
  rw [e]
  rfl
theorem place_eq {G b off : Nat} (h : some (⟨G, 0, none⟩ : Addr) = some ⟨b, off, none⟩) : b = G ∧ off = 0 := by
  simp only [Option.some.injEq, Addr.mk.injEq] at h
  exact ⟨h.1.symm, h.2.1.symm⟩
theorem filled_succ (k : List Nat) (c i : Nat) (h : i < 64) : (filled k c).take (i + 1) = (filled k c).take i ++ [k.getD i 0 ^^^ c] := by
  rw [List.take_add_one]
  congr 1
  unfold filled
  rw [List.getElem?_map, List.getElem?_range h]
  rfl
theorem below_step {W a b : World} (h : Below W.heap.size W a) (hb : Below a.heap.size a b) : Below W.heap.size W b := h.trans (hb.mono h.size)

set_option maxRecDepth 100000 in
set_option maxHeartbeats 16000000 in
theorem refTag_short (key s : ByteArray) (w : World) (hk : key.size ≤ 64) (hs : s.size ≤ 5000) :
    Calls Tryd.prog 21 #[.string key, .string s] w fun e w' => e = .returned (.string (txt (tag (nats key) (nats s)))) ∧ Below w.heap.size w w' := by
  obtain ⟨ib, hib, hb0, hb1, hb2⟩ := info_parts infoB
  obtain ⟨k, hkd⟩ : ∃ k, k = nats key := ⟨_, rfl⟩
  have HKD := Lib.hid hkd
  have hkl : k.length = key.size := by rw [hkd]; exact nats_len key
  have hklt : ∀ b ∈ k, b < 256 := by rw [hkd]; exact nats_lt key
  have HKL := Lib.hid hkl
  have HKT := Lib.hid hklt
  have t0 : decide ((64 : Int) < (key.size : Int)) = false := by simp; omega
  have hwB : w.heap.size ≤ w.heap.size := Nat.le_refl _
  have hwb : Below w.heap.size w w := Below.refl _ _
  have O1 := OwnsM.of (World.ownsRow_made (base := w.heap.size) (e := 5) (size := 1) w #[] 0 hwB (by simp) (by simp))
  have O2 := OwnsM.of (World.ownsRow_made (base := w.heap.size) (e := 5) (size := 1) (w.alloc (.cells #[] 5)) #[] 0 (by simp) (by simp) (by simp))
  have H1 := Lib.hid (O1.alloc (.cells #[] 5))
  have H2 := Lib.hid O2
  have HA := Lib.hid ((hwb.alloc hwB (.cells #[] 5)).alloc (by simp) (.cells #[] 5))
  clear hkd hkl hklt O1 O2 hwB hwb
  go_enter Tryd.func21, Tryd.ntmps21
  go_wp2_with fail
  go_loopg [5, 6, 7] 64 (fun gh s5 s6 s7 wx => ∃ i g5 c5 g6 c6 : Nat, i + gh = 64 ∧ s7 = .int .i64 (i : Int) ∧ s5 = .slice (some ⟨g5, 0, none⟩) i c5 ∧ s6 = .slice (some ⟨g6, 0, none⟩) i c6 ∧ Hid (OwnsM wx w.heap.size 5 (.slice (some ⟨g5, 0, none⟩) i c5) i (byteVals ((filled k 54).take i))) ∧ Hid (OwnsM wx w.heap.size 5 (.slice (some ⟨g6, 0, none⟩) i c6) i (byteVals ((filled k 92).take i))) ∧ g5 ≠ g6 ∧ Hid (Below w.heap.size w wx))
  case atStart => exact ⟨0, w.heap.size, 0, w.heap.size + 1, 0, rfl, by go_num, rfl, by simp, H1, Lib.hid (by have h := H2.out; simpa [byteVals] using h), by omega, HA⟩
  case round =>
    clear H1 H2 HA
    obtain ⟨i, g5, c5, g6, c6, hi, rfl, rfl, rfl, h5, h6, hne, hb⟩ := hrel
    by_cases h64 : i < 64
    · have h64' : (i : Int) < 64 := by omega
      obtain ⟨z, hz⟩ : ∃ z, z = k.getD i 0 := ⟨_, rfl⟩
      have hz8 : z < 256 := by
        rw [hz, List.getD_eq_getElem?_getD]
        cases hq : k[i]? with
        | none => simp
        | some y => simpa using HKT.out y (List.mem_of_getElem? hq)
      obtain ⟨u, hu⟩ : ∃ u, u = z ^^^ 54 := ⟨_, rfl⟩
      obtain ⟨v, hv⟩ : ∃ v, v = z ^^^ 92 := ⟨_, rfl⟩
      have e1 : bits .xor .u8 (z : Int) 54 = (u : Int) := by rw [hu]; exact u8_xor_nat z 54 hz8 (by decide)
      have e2 : bits .xor .u8 (z : Int) 92 = (v : Int) := by rw [hv]; exact u8_xor_nat z 92 hz8 (by decide)
      have HF := Lib.hid (show (filled k 54).take (i + 1) = (filled k 54).take i ++ [u] by rw [filled_succ k 54 i h64, ← hz, ← hu])
      have HG := Lib.hid (show (filled k 92).take (i + 1) = (filled k 92).take i ++ [v] by rw [filled_succ k 92 i h64, ← hz, ← hv])
      have HO := Lib.hid (h5.out.alloc (.cells #[.int .u8 (u : Int)] 5))
      have HP := Lib.hid (h6.out.alloc (.cells #[.int .u8 (u : Int)] 5))
      have HB := Lib.hid (hb.out.alloc hb.out.size (.cells #[.int .u8 (u : Int)] 5))
      have hs9 := hb.out.size
      clear h5 h6 hb
      have fin : ∀ (v3 : Value) (w3 : World) (v4 : Value) (w4 : World), OwnsM w3 w.heap.size 5 v3 (i + 1) (byteVals ((filled k 54).take i) ++ [.int .u8 (u : Int)]) → (wr.alloc (.cells #[.int .u8 (u : Int)] 5)).grownBy w3 (some g5) → (∀ k, v3.ownBlock = some k → some g5 = some k ∨ (wr.alloc (.cells #[.int .u8 (u : Int)] 5)).heap.size ≤ k) →
          OwnsM w4 w.heap.size 5 v4 (i + 1) (byteVals ((filled k 92).take i) ++ [.int .u8 (v : Int)]) → (w3.alloc (.cells #[.int .u8 (v : Int)] 5)).grownBy w4 (some g6) → (∀ k, v4.ownBlock = some k → some g6 = some k ∨ (w3.alloc (.cells #[.int .u8 (v : Int)] 5)).heap.size ≤ k) →
          ∃ i' g5' c5' g6' c6' : Nat, i' + (64 - (i + 1)) = 64 ∧ Value.int .i64 ((i : Int) + 1) = .int .i64 (i' : Int) ∧ v3 = .slice (some ⟨g5', 0, none⟩) i' c5' ∧ v4 = .slice (some ⟨g6', 0, none⟩) i' c6' ∧ Hid (OwnsM w4 w.heap.size 5 (.slice (some ⟨g5', 0, none⟩) i' c5') i' (byteVals ((filled k 54).take i'))) ∧ Hid (OwnsM w4 w.heap.size 5 (.slice (some ⟨g6', 0, none⟩) i' c6') i' (byteVals ((filled k 92).take i'))) ∧ g5' ≠ g6' ∧ Hid (Below w.heap.size w w4) := by
        intro v3 w3 v4 w4 ho3 hg3 hf3 ho4 hg4 hf4
        have hB3 : Below w.heap.size w w3 := HB.out.grown hg3 HB.out.size (fun q hq => by rw [← Option.some.inj hq]; exact (HO.out.lt g5 rfl).1)
        obtain ⟨a5, d5, rfl, _, hl5, _, _, _, _⟩ := ho3.open (by omega)
        obtain ⟨a6, d6, rfl, _, hl6, _, _, _, _⟩ := ho4.open (by omega)
        have hg6l := (HP.out.lt g6 rfl).2
        have hs3 := hg3.size
        have k5 := hf3 a5 rfl
        have k6 := hf4 a6 rfl
        have hs4 : (w3.alloc (.cells #[.int .u8 (v : Int)] 5)).heap.size = w3.heap.size + 1 := by simp
        have n5 : a5 ≠ g6 := by
          rcases k5 with h | h
          · rw [← Option.some.inj h]; exact hne
          · omega
        have n6 : a5 ≠ a6 := by
          rcases k6 with h | h
          · rw [← Option.some.inj h]; exact n5
          · omega
        have hB4 : Below w.heap.size w w4 := (hB3.alloc hB3.size _).grown hg4 (by have := hB3.size; omega) (fun q hq => by rw [← Option.some.inj hq]; exact (HP.out.lt g6 rfl).1)
        refine ⟨i + 1, a5, d5, a6, d6, by omega, by congr 1, rfl, rfl, Lib.hid ?_, Lib.hid ?_, n6, Lib.hid hB4⟩
        · rw [HF.out, byteVals_append]
          exact (ho3.alloc _).kept hg4 (.inr (by simp [Value.ownBlock]; exact n5))
        · rw [HG.out, byteVals_append]
          exact ho4
      by_cases hik : i < key.size
      · have hx : ((key[i]'hik).toNat : Int) = (z : Int) := by
          have h1 := nats_at key i hik
          rw [hz, HKD.out, List.getD_eq_getElem?_getD, h1]
          rfl
        have t1 : decide (i < key.size) = true := by simpa using hik
        have FIN := Lib.hid fin
        clear hz hu hv fin
        go_wp2_with (first
          | (at_builtin; refine wpList_append_far rfl _ _ 51 rfl w.heap.size 5 ib (.int .u8 0) 1 Tryd.underlying51 hib hb0 hb1 hb2 rfl _ _ _ rfl HO.out ⟨_, 0, none⟩ 1 1 [.int .u8 (u : Int)] rfl rfl (one_at _ _ _ _ rfl) (fun u hu => by simp at hu; subst hu; rfl) (by unfold maxLen; omega) (by omega) (by simp; omega) ?_; intro v3 w3 hown3 hgrow3 hfar3; replace hgrow3 : World.grownBy _ w3 (some g5) := hgrow3; have HP3 := Lib.hid ((HP.out.kept hgrow3 (.inr (fun h => hne (Option.some.inj h).symm))).alloc (.cells #[.int .u8 (v : Int)] 5)); have hsz3 := hgrow3.size; have HOWN3 := Lib.hid hown3; have HGR3 := Lib.hid hgrow3; have HFAR3 := Lib.hid hfar3; clear hown3 hgrow3 hfar3)
          | (at_builtin; refine wpList_append_far rfl _ _ 51 rfl w.heap.size 5 ib (.int .u8 0) 1 Tryd.underlying51 hib hb0 hb1 hb2 rfl _ _ _ rfl HP3.out ⟨_, 0, none⟩ 1 1 [.int .u8 (v : Int)] rfl rfl (one_at _ _ _ _ rfl) (fun u hu => by simp at hu; subst hu; rfl) (by unfold maxLen; omega) (by omega) (by simp at hsz3 ⊢; omega) ?_; intro v4 w4 hown4 hgrow4 hfar4))
        go_roundg (64 - (i + 1))
        case measure => omega
        case rel => exact FIN.out v3 w3 v4 w4 HOWN3.out HGR3.out HFAR3.out hown4 hgrow4 hfar4
      · have hz0 : z = 0 := by rw [hz, List.getD_eq_getElem?_getD, List.getElem?_eq_none (by rw [HKL.out]; omega)]; rfl
        have e10 : bits .xor .u8 (0 : Int) 54 = (u : Int) := by rw [hz0] at e1; exact e1
        have e20 : bits .xor .u8 (0 : Int) 92 = (v : Int) := by rw [hz0] at e2; exact e2
        have t1 : decide (i < key.size) = false := by simpa using hik
        have FIN := Lib.hid fin
        clear hz hu hv fin hz0 e1 e2
        go_wp2_with (first
          | (at_builtin; refine wpList_append_far rfl _ _ 51 rfl w.heap.size 5 ib (.int .u8 0) 1 Tryd.underlying51 hib hb0 hb1 hb2 rfl _ _ _ rfl HO.out ⟨_, 0, none⟩ 1 1 [.int .u8 (u : Int)] rfl rfl (one_at _ _ _ _ rfl) (fun u hu => by simp at hu; subst hu; rfl) (by unfold maxLen; omega) (by omega) (by simp; omega) ?_; intro v3 w3 hown3 hgrow3 hfar3; replace hgrow3 : World.grownBy _ w3 (some g5) := hgrow3; have HP3 := Lib.hid ((HP.out.kept hgrow3 (.inr (fun h => hne (Option.some.inj h).symm))).alloc (.cells #[.int .u8 (v : Int)] 5)); have hsz3 := hgrow3.size; have HOWN3 := Lib.hid hown3; have HGR3 := Lib.hid hgrow3; have HFAR3 := Lib.hid hfar3; clear hown3 hgrow3 hfar3)
          | (at_builtin; refine wpList_append_far rfl _ _ 51 rfl w.heap.size 5 ib (.int .u8 0) 1 Tryd.underlying51 hib hb0 hb1 hb2 rfl _ _ _ rfl HP3.out ⟨_, 0, none⟩ 1 1 [.int .u8 (v : Int)] rfl rfl (one_at _ _ _ _ rfl) (fun u hu => by simp at hu; subst hu; rfl) (by unfold maxLen; omega) (by omega) (by simp at hsz3 ⊢; omega) ?_; intro v4 w4 hown4 hgrow4 hfar4))
        go_roundg (64 - (i + 1))
        case measure => omega
        case rel => exact FIN.out v3 w3 v4 w4 HOWN3.out HGR3.out HFAR3.out hown4 hgrow4 hfar4
    · obtain rfl : i = 64 := by omega
      have f5 : (filled k 54).take 64 = filled k 54 := List.take_of_length_le (by rw [filled_len]; decide)
      have f6 : (filled k 92).take 64 = filled k 92 := List.take_of_length_le (by rw [filled_len]; decide)
      have h5' := h5.out
      have h6' := h6.out
      rw [f5] at h5'
      rw [f6] at h6'
      have l5 : g5 < wr.heap.size := (h5'.lt g5 rfl).2
      have l6 : g6 < wr.heap.size := (h6'.lt g6 rfl).2
      have cv : ∀ (g c x : Nat), g < wr.heap.size → x < 256 → OwnsM wr w.heap.size 5 (.slice (some ⟨g, 0, none⟩) 64 c) 64 (byteVals (filled k x)) → ∀ w', Below wr.heap.size wr w' →
          (convert 51 9 (.slice (some ⟨g, 0, none⟩) 64 c)).run Tryd.prog w' = .ok (.string (txt (filled k x))) w' := by
        intro g c x hg hx ho w' hb'
        obtain ⟨g', c', he, _, _, _, _, hcells, _⟩ := ho.open (by decide)
        simp only [Value.slice.injEq] at he
        have hgg := (place_eq he.1).1
        have h := text_any w' g c (filled k x) (filled_lt HKT.out hx) (fun j hj => by
          rw [filled_len] at hj
          rw [← hcells j hj, hgg]
          exact hb'.cell (p := ⟨g, j, none⟩) hg)
        rw [filled_len] at h
        exact h
      have E5 := cv g5 c5 54 l5 (by decide) h5'
      have E6 := cv g6 c6 92 l6 (by decide) h6'
      obtain ⟨SI, hSI⟩ : ∃ SI, SI = txt (filled k 54) := ⟨_, rfl⟩
      obtain ⟨SO, hSO⟩ : ∃ SO, SO = txt (filled k 92) := ⟨_, rfl⟩
      have zI : SI.size = 64 := by rw [hSI, txt_len, filled_len]
      have zO : SO.size = 64 := by rw [hSO, txt_len, filled_len]
      have nI : nats SI = filled k 54 := by rw [hSI]; exact nats_txt _ (filled_lt HKT.out (by decide))
      have nO : nats SO = filled k 92 := by rw [hSO]; exact nats_txt _ (filled_lt HKT.out (by decide))
      rw [← hSI] at E5
      rw [← hSO] at E6
      obtain ⟨D1, hD1⟩ : ∃ D1, D1 = txt (digest (nats (SI ++ s))) := ⟨_, rfl⟩
      have zD : D1.size = 32 := by rw [hD1, txt_len, digest_len]
      have nD : nats D1 = digest (nats (SI ++ s)) := by rw [hD1]; exact nats_txt _ (digest_lt _)
      have Q1 := Lib.hid (fun w => refDigest (SI ++ s) w (by rw [ByteArray.size_append]; omega))
      have Q2 := Lib.hid (fun w => refDigest (SO ++ D1) w (by rw [ByteArray.size_append]; omega))
      rw [← hD1] at Q1
      have HR := Lib.hid (show txt (digest (nats (SO ++ D1))) = txt (tag (nats key) (nats s)) by
        unfold tag
        rw [nats_append, nO, nD, nats_append, nI, ← HKD.out, show short k = k by unfold short; rw [if_neg (by rw [HKL.out]; omega)]])
      have HBW := Lib.hid hb.out
      have hB0 : Below wr.heap.size wr wr := Below.refl _ _
      have hB1 : Below wr.heap.size wr wr.drew := (Below.refl _ _).drew
      have z1 : (SI ++ s).size ≤ 10000 := by rw [ByteArray.size_append]; omega
      have z2 : (SO ++ D1).size ≤ 10000 := by rw [ByteArray.size_append]; omega
      clear hSI hSO hD1 cv h5 h6 h5' h6' f5 f6 hb nI nO nD h64
      go_wp2_with fail
      go_region_with (first
        | (go_at_call_of 25 (SI ++ s); refine (Q1.out _).mono ?_; rintro e w5 ⟨rfl, hb5⟩; have hq5 : Below wr.heap.size wr w5 := below_step (by go_grown) hb5)
        | (go_at_call 25; refine (Q2.out _).mono ?_; rintro e w6 ⟨rfl, hb6⟩; have hq6 : Below wr.heap.size wr w6 := below_step (by go_grown) hb6))
      all_goals (go_wp2; go_ret; exact ⟨by rw [← HR.out]; rfl, HBW.out.trans (Below.mono (B := wr.heap.size) (by go_grown) HBW.out.size)⟩)

set_option maxRecDepth 100000 in
set_option maxHeartbeats 16000000 in
theorem refTag_long (key0 s : ByteArray) (w : World) (hk0 : 64 < key0.size) (hk1 : key0.size ≤ 5000) (hs : s.size ≤ 5000) :
    Calls Tryd.prog 21 #[.string key0, .string s] w fun e w' => e = .returned (.string (txt (tag (nats key0) (nats s)))) ∧ Below w.heap.size w w' := by
  obtain ⟨key, hkey⟩ : ∃ key, key = txt (digest (nats key0)) := ⟨_, rfl⟩
  have hk : key.size ≤ 64 := by rw [hkey, txt_len, digest_len]; decide
  have hkn : nats key = short (nats key0) := by rw [hkey, nats_txt _ (digest_lt _)]; unfold short; rw [if_pos (by rw [nats_len]; exact hk0)]
  obtain ⟨ib, hib, hb0, hb1, hb2⟩ := info_parts infoB
  obtain ⟨k, hkd⟩ : ∃ k, k = nats key := ⟨_, rfl⟩
  have HKD := Lib.hid hkd
  have hkl : k.length = key.size := by rw [hkd]; exact nats_len key
  have hklt : ∀ b ∈ k, b < 256 := by rw [hkd]; exact nats_lt key
  have HKL := Lib.hid hkl
  have HKT := Lib.hid hklt
  have t0 : decide ((64 : Int) < (key.size : Int)) = false := by simp; omega
  have hzl : 64 < key0.size := hk0
  have t00 : decide ((64 : Int) < (key0.size : Int)) = true := by simp; omega
  have HD0 := Lib.hid (refDigest key0 w (by omega))
  rw [← hkey] at HD0
  have HKK := Lib.hid hkn
  clear hkd hkl hklt hkey hkn
  go_enter Tryd.func21, Tryd.ntmps21
  go_wp2_with fail
  refine HD0.out.mono ?_
  rintro e wx ⟨rfl, hwb⟩
  have hwB := hwb.size
  have O1 := OwnsM.of (World.ownsRow_made (base := w.heap.size) (e := 5) (size := 1) wx #[] 0 hwB (by simp) (by simp))
  have O2 := OwnsM.of (World.ownsRow_made (base := w.heap.size) (e := 5) (size := 1) (wx.alloc (.cells #[] 5)) #[] 0 (by simp; omega) (by simp) (by simp))
  have H1 := Lib.hid (O1.alloc (.cells #[] 5))
  have H2 := Lib.hid O2
  have HA := Lib.hid ((hwb.alloc hwB (.cells #[] 5)).alloc (by simp; omega) (.cells #[] 5))
  clear O1 O2 hwB hwb
  go_wp2_with fail
  go_loopg [5, 6, 7] 64 (fun gh s5 s6 s7 wx => ∃ i g5 c5 g6 c6 : Nat, i + gh = 64 ∧ s7 = .int .i64 (i : Int) ∧ s5 = .slice (some ⟨g5, 0, none⟩) i c5 ∧ s6 = .slice (some ⟨g6, 0, none⟩) i c6 ∧ Hid (OwnsM wx w.heap.size 5 (.slice (some ⟨g5, 0, none⟩) i c5) i (byteVals ((filled k 54).take i))) ∧ Hid (OwnsM wx w.heap.size 5 (.slice (some ⟨g6, 0, none⟩) i c6) i (byteVals ((filled k 92).take i))) ∧ g5 ≠ g6 ∧ Hid (Below w.heap.size w wx))
  case atStart => exact ⟨0, wx.heap.size, 0, wx.heap.size + 1, 0, rfl, by go_num, rfl, by simp, H1, Lib.hid (by have h := H2.out; simpa [byteVals] using h), by omega, HA⟩
  case round =>
    clear H1 H2 HA
    obtain ⟨i, g5, c5, g6, c6, hi, rfl, rfl, rfl, h5, h6, hne, hb⟩ := hrel
    by_cases h64 : i < 64
    · have h64' : (i : Int) < 64 := by omega
      obtain ⟨z, hz⟩ : ∃ z, z = k.getD i 0 := ⟨_, rfl⟩
      have hz8 : z < 256 := by
        rw [hz, List.getD_eq_getElem?_getD]
        cases hq : k[i]? with
        | none => simp
        | some y => simpa using HKT.out y (List.mem_of_getElem? hq)
      obtain ⟨u, hu⟩ : ∃ u, u = z ^^^ 54 := ⟨_, rfl⟩
      obtain ⟨v, hv⟩ : ∃ v, v = z ^^^ 92 := ⟨_, rfl⟩
      have e1 : bits .xor .u8 (z : Int) 54 = (u : Int) := by rw [hu]; exact u8_xor_nat z 54 hz8 (by decide)
      have e2 : bits .xor .u8 (z : Int) 92 = (v : Int) := by rw [hv]; exact u8_xor_nat z 92 hz8 (by decide)
      have HF := Lib.hid (show (filled k 54).take (i + 1) = (filled k 54).take i ++ [u] by rw [filled_succ k 54 i h64, ← hz, ← hu])
      have HG := Lib.hid (show (filled k 92).take (i + 1) = (filled k 92).take i ++ [v] by rw [filled_succ k 92 i h64, ← hz, ← hv])
      have HO := Lib.hid (h5.out.alloc (.cells #[.int .u8 (u : Int)] 5))
      have HP := Lib.hid (h6.out.alloc (.cells #[.int .u8 (u : Int)] 5))
      have HB := Lib.hid (hb.out.alloc hb.out.size (.cells #[.int .u8 (u : Int)] 5))
      have hs9 := hb.out.size
      clear h5 h6 hb
      have fin : ∀ (v3 : Value) (w3 : World) (v4 : Value) (w4 : World), OwnsM w3 w.heap.size 5 v3 (i + 1) (byteVals ((filled k 54).take i) ++ [.int .u8 (u : Int)]) → (wr.alloc (.cells #[.int .u8 (u : Int)] 5)).grownBy w3 (some g5) → (∀ k, v3.ownBlock = some k → some g5 = some k ∨ (wr.alloc (.cells #[.int .u8 (u : Int)] 5)).heap.size ≤ k) →
          OwnsM w4 w.heap.size 5 v4 (i + 1) (byteVals ((filled k 92).take i) ++ [.int .u8 (v : Int)]) → (w3.alloc (.cells #[.int .u8 (v : Int)] 5)).grownBy w4 (some g6) → (∀ k, v4.ownBlock = some k → some g6 = some k ∨ (w3.alloc (.cells #[.int .u8 (v : Int)] 5)).heap.size ≤ k) →
          ∃ i' g5' c5' g6' c6' : Nat, i' + (64 - (i + 1)) = 64 ∧ Value.int .i64 ((i : Int) + 1) = .int .i64 (i' : Int) ∧ v3 = .slice (some ⟨g5', 0, none⟩) i' c5' ∧ v4 = .slice (some ⟨g6', 0, none⟩) i' c6' ∧ Hid (OwnsM w4 w.heap.size 5 (.slice (some ⟨g5', 0, none⟩) i' c5') i' (byteVals ((filled k 54).take i'))) ∧ Hid (OwnsM w4 w.heap.size 5 (.slice (some ⟨g6', 0, none⟩) i' c6') i' (byteVals ((filled k 92).take i'))) ∧ g5' ≠ g6' ∧ Hid (Below w.heap.size w w4) := by
        intro v3 w3 v4 w4 ho3 hg3 hf3 ho4 hg4 hf4
        have hB3 : Below w.heap.size w w3 := HB.out.grown hg3 HB.out.size (fun q hq => by rw [← Option.some.inj hq]; exact (HO.out.lt g5 rfl).1)
        obtain ⟨a5, d5, rfl, _, hl5, _, _, _, _⟩ := ho3.open (by omega)
        obtain ⟨a6, d6, rfl, _, hl6, _, _, _, _⟩ := ho4.open (by omega)
        have hg6l := (HP.out.lt g6 rfl).2
        have hs3 := hg3.size
        have k5 := hf3 a5 rfl
        have k6 := hf4 a6 rfl
        have hs4 : (w3.alloc (.cells #[.int .u8 (v : Int)] 5)).heap.size = w3.heap.size + 1 := by simp
        have n5 : a5 ≠ g6 := by
          rcases k5 with h | h
          · rw [← Option.some.inj h]; exact hne
          · omega
        have n6 : a5 ≠ a6 := by
          rcases k6 with h | h
          · rw [← Option.some.inj h]; exact n5
          · omega
        have hB4 : Below w.heap.size w w4 := (hB3.alloc hB3.size _).grown hg4 (by have := hB3.size; omega) (fun q hq => by rw [← Option.some.inj hq]; exact (HP.out.lt g6 rfl).1)
        refine ⟨i + 1, a5, d5, a6, d6, by omega, by congr 1, rfl, rfl, Lib.hid ?_, Lib.hid ?_, n6, Lib.hid hB4⟩
        · rw [HF.out, byteVals_append]
          exact (ho3.alloc _).kept hg4 (.inr (by simp [Value.ownBlock]; exact n5))
        · rw [HG.out, byteVals_append]
          exact ho4
      by_cases hik : i < key.size
      · have hx : ((key[i]'hik).toNat : Int) = (z : Int) := by
          have h1 := nats_at key i hik
          rw [hz, HKD.out, List.getD_eq_getElem?_getD, h1]
          rfl
        have t1 : decide (i < key.size) = true := by simpa using hik
        have FIN := Lib.hid fin
        clear hz hu hv fin
        go_wp2_with (first
          | (at_builtin; refine wpList_append_far rfl _ _ 51 rfl w.heap.size 5 ib (.int .u8 0) 1 Tryd.underlying51 hib hb0 hb1 hb2 rfl _ _ _ rfl HO.out ⟨_, 0, none⟩ 1 1 [.int .u8 (u : Int)] rfl rfl (one_at _ _ _ _ rfl) (fun u hu => by simp at hu; subst hu; rfl) (by unfold maxLen; omega) (by omega) (by simp; omega) ?_; intro v3 w3 hown3 hgrow3 hfar3; replace hgrow3 : World.grownBy _ w3 (some g5) := hgrow3; have HP3 := Lib.hid ((HP.out.kept hgrow3 (.inr (fun h => hne (Option.some.inj h).symm))).alloc (.cells #[.int .u8 (v : Int)] 5)); have hsz3 := hgrow3.size; have HOWN3 := Lib.hid hown3; have HGR3 := Lib.hid hgrow3; have HFAR3 := Lib.hid hfar3; clear hown3 hgrow3 hfar3)
          | (at_builtin; refine wpList_append_far rfl _ _ 51 rfl w.heap.size 5 ib (.int .u8 0) 1 Tryd.underlying51 hib hb0 hb1 hb2 rfl _ _ _ rfl HP3.out ⟨_, 0, none⟩ 1 1 [.int .u8 (v : Int)] rfl rfl (one_at _ _ _ _ rfl) (fun u hu => by simp at hu; subst hu; rfl) (by unfold maxLen; omega) (by omega) (by simp at hsz3 ⊢; omega) ?_; intro v4 w4 hown4 hgrow4 hfar4))
        go_roundg (64 - (i + 1))
        case measure => omega
        case rel => exact FIN.out v3 w3 v4 w4 HOWN3.out HGR3.out HFAR3.out hown4 hgrow4 hfar4
      · have hz0 : z = 0 := by rw [hz, List.getD_eq_getElem?_getD, List.getElem?_eq_none (by rw [HKL.out]; omega)]; rfl
        have e10 : bits .xor .u8 (0 : Int) 54 = (u : Int) := by rw [hz0] at e1; exact e1
        have e20 : bits .xor .u8 (0 : Int) 92 = (v : Int) := by rw [hz0] at e2; exact e2
        have t1 : decide (i < key.size) = false := by simpa using hik
        have FIN := Lib.hid fin
        clear hz hu hv fin hz0 e1 e2
        go_wp2_with (first
          | (at_builtin; refine wpList_append_far rfl _ _ 51 rfl w.heap.size 5 ib (.int .u8 0) 1 Tryd.underlying51 hib hb0 hb1 hb2 rfl _ _ _ rfl HO.out ⟨_, 0, none⟩ 1 1 [.int .u8 (u : Int)] rfl rfl (one_at _ _ _ _ rfl) (fun u hu => by simp at hu; subst hu; rfl) (by unfold maxLen; omega) (by omega) (by simp; omega) ?_; intro v3 w3 hown3 hgrow3 hfar3; replace hgrow3 : World.grownBy _ w3 (some g5) := hgrow3; have HP3 := Lib.hid ((HP.out.kept hgrow3 (.inr (fun h => hne (Option.some.inj h).symm))).alloc (.cells #[.int .u8 (v : Int)] 5)); have hsz3 := hgrow3.size; have HOWN3 := Lib.hid hown3; have HGR3 := Lib.hid hgrow3; have HFAR3 := Lib.hid hfar3; clear hown3 hgrow3 hfar3)
          | (at_builtin; refine wpList_append_far rfl _ _ 51 rfl w.heap.size 5 ib (.int .u8 0) 1 Tryd.underlying51 hib hb0 hb1 hb2 rfl _ _ _ rfl HP3.out ⟨_, 0, none⟩ 1 1 [.int .u8 (v : Int)] rfl rfl (one_at _ _ _ _ rfl) (fun u hu => by simp at hu; subst hu; rfl) (by unfold maxLen; omega) (by omega) (by simp at hsz3 ⊢; omega) ?_; intro v4 w4 hown4 hgrow4 hfar4))
        go_roundg (64 - (i + 1))
        case measure => omega
        case rel => exact FIN.out v3 w3 v4 w4 HOWN3.out HGR3.out HFAR3.out hown4 hgrow4 hfar4
    · obtain rfl : i = 64 := by omega
      have f5 : (filled k 54).take 64 = filled k 54 := List.take_of_length_le (by rw [filled_len]; decide)
      have f6 : (filled k 92).take 64 = filled k 92 := List.take_of_length_le (by rw [filled_len]; decide)
      have h5' := h5.out
      have h6' := h6.out
      rw [f5] at h5'
      rw [f6] at h6'
      have l5 : g5 < wr.heap.size := (h5'.lt g5 rfl).2
      have l6 : g6 < wr.heap.size := (h6'.lt g6 rfl).2
      have cv : ∀ (g c x : Nat), g < wr.heap.size → x < 256 → OwnsM wr w.heap.size 5 (.slice (some ⟨g, 0, none⟩) 64 c) 64 (byteVals (filled k x)) → ∀ w', Below wr.heap.size wr w' →
          (convert 51 9 (.slice (some ⟨g, 0, none⟩) 64 c)).run Tryd.prog w' = .ok (.string (txt (filled k x))) w' := by
        intro g c x hg hx ho w' hb'
        obtain ⟨g', c', he, _, _, _, _, hcells, _⟩ := ho.open (by decide)
        simp only [Value.slice.injEq] at he
        have hgg := (place_eq he.1).1
        have h := text_any w' g c (filled k x) (filled_lt HKT.out hx) (fun j hj => by
          rw [filled_len] at hj
          rw [← hcells j hj, hgg]
          exact hb'.cell (p := ⟨g, j, none⟩) hg)
        rw [filled_len] at h
        exact h
      have E5 := cv g5 c5 54 l5 (by decide) h5'
      have E6 := cv g6 c6 92 l6 (by decide) h6'
      obtain ⟨SI, hSI⟩ : ∃ SI, SI = txt (filled k 54) := ⟨_, rfl⟩
      obtain ⟨SO, hSO⟩ : ∃ SO, SO = txt (filled k 92) := ⟨_, rfl⟩
      have zI : SI.size = 64 := by rw [hSI, txt_len, filled_len]
      have zO : SO.size = 64 := by rw [hSO, txt_len, filled_len]
      have nI : nats SI = filled k 54 := by rw [hSI]; exact nats_txt _ (filled_lt HKT.out (by decide))
      have nO : nats SO = filled k 92 := by rw [hSO]; exact nats_txt _ (filled_lt HKT.out (by decide))
      rw [← hSI] at E5
      rw [← hSO] at E6
      obtain ⟨D1, hD1⟩ : ∃ D1, D1 = txt (digest (nats (SI ++ s))) := ⟨_, rfl⟩
      have zD : D1.size = 32 := by rw [hD1, txt_len, digest_len]
      have nD : nats D1 = digest (nats (SI ++ s)) := by rw [hD1]; exact nats_txt _ (digest_lt _)
      have Q1 := Lib.hid (fun w => refDigest (SI ++ s) w (by rw [ByteArray.size_append]; omega))
      have Q2 := Lib.hid (fun w => refDigest (SO ++ D1) w (by rw [ByteArray.size_append]; omega))
      rw [← hD1] at Q1
      have HR := Lib.hid (show txt (digest (nats (SO ++ D1))) = txt (tag (nats key0) (nats s)) by
        unfold tag
        rw [nats_append, nO, nD, nats_append, nI, ← HKK.out, ← HKD.out])
      have HBW := Lib.hid hb.out
      have hB0 : Below wr.heap.size wr wr := Below.refl _ _
      have hB1 : Below wr.heap.size wr wr.drew := (Below.refl _ _).drew
      have z1 : (SI ++ s).size ≤ 10000 := by rw [ByteArray.size_append]; omega
      have z2 : (SO ++ D1).size ≤ 10000 := by rw [ByteArray.size_append]; omega
      clear hSI hSO hD1 cv h5 h6 h5' h6' f5 f6 hb nI nO nD h64
      go_wp2_with fail
      go_region_with (first
        | (go_at_call_of 25 (SI ++ s); refine (Q1.out _).mono ?_; rintro e w5 ⟨rfl, hb5⟩; have hq5 : Below wr.heap.size wr w5 := below_step (by go_grown) hb5)
        | (go_at_call 25; refine (Q2.out _).mono ?_; rintro e w6 ⟨rfl, hb6⟩; have hq6 : Below wr.heap.size wr w6 := below_step (by go_grown) hb6))
      all_goals (go_wp2; go_ret; exact ⟨by rw [← HR.out]; rfl, HBW.out.trans (Below.mono (B := wr.heap.size) (by go_grown) HBW.out.size)⟩)

theorem refTag (key s : ByteArray) (w : World) (hk : key.size ≤ 5000) (hs : s.size ≤ 5000) :
    Calls Tryd.prog 21 #[.string key, .string s] w fun e w' => e = .returned (.string (txt (tag (nats key) (nats s)))) ∧ Below w.heap.size w w' := by
  by_cases h : 64 < key.size
  · exact refTag_long key s w h hk hs
  · exact refTag_short key s w (by omega) hs

set_option maxRecDepth 100000 in
set_option maxHeartbeats 4000000 in
theorem refDerive (key : ByteArray) (n : Int) (w : World) (hk : key.size ≤ 5000) :
    Calls Tryd.prog 15 #[.string key, .int .i64 n] w fun e w' => e = .returned (.string (txt (derive (nats key) (n % 18446744073709551616).toNat))) ∧ Below w.heap.size w w' := by
  obtain ⟨x, hx⟩ : ∃ x : Nat, x = (n % 18446744073709551616).toNat := ⟨_, rfl⟩
  have hxi : (x : Int) = n % 18446744073709551616 := by omega
  have e1 : IntKind.u64.wrap n = (x : Int) := by rw [IntKind.wrap_u64]; omega
  have HN := Lib.hid (number_eight' x w (by omega))
  have hcells := cells_new w (byteVals (eight x)) 5 w.heap.size rfl
  have hcv := text_any (w.alloc (.cells (byteVals (eight x)).toArray 5)) w.heap.size 8 (eight x) (eight_lt x) (fun j hj => by
    rw [World.cell?_alloc_mark]
    simp)
  rw [eight_len] at hcv
  have HT := Lib.hid (fun w => refTag key (⟨#[107, 101, 121]⟩ ++ txt (eight x)) w hk (by rw [ByteArray.size_append, txt_len, eight_len]; decide))
  have HB := Lib.hid ((Below.refl w.heap.size w).alloc (Nat.le_refl _) (.cells (byteVals (eight x)).toArray 5))
  have HR := Lib.hid (show txt (tag (nats key) (nats (⟨#[107, 101, 121]⟩ ++ txt (eight x)))) = txt (derive (nats key) x) by
    unfold derive
    rw [nats_append, nats_txt _ (eight_lt x)]
    rfl)
  rw [← hx]
  clear hx hxi hcells
  go_enter Tryd.func15, Tryd.ntmps15
  go_wp2_with (first
    | (go_at_call 22; refine HN.out.mono ?_; rintro e w2 ⟨rfl, rfl⟩)
    | (go_at_call 21; refine (HT.out _).mono ?_; rintro e w3 ⟨rfl, hb3⟩))
  go_ret
  exact ⟨by rw [← HR.out]; rfl, HB.out.trans (hb3.mono HB.out.size)⟩
end Go.Proofs.YthafeccfcnmefaaDoor
