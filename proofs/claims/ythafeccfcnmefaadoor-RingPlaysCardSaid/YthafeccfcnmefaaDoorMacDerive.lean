/-
  The contract of mac's Derive: the key of a number; old memory is as it was. The conditions: a master of at most 5,000 bytes; the 64 constants stand where the program's text lays them.
-/
import Derived.Test.YthafeccfcnmefaaDoorMacTag
import Derived.Test.YthafeccfcnmefaaDoorMark
import Derived.Lib.SlBytesConst
namespace Go.Proofs.YthafeccfcnmefaaDoor
open Go.RowKit ShaMath TextNat

set_option maxRecDepth 100000 in
set_option maxHeartbeats 4000000 in
theorem macDerive (key : ByteArray) (n : Int) (w : World) (hk : key.size ≤ 5000) (hp : Parts w) :
    Calls Tryd.prog 20 #[.string key, .int .i64 n] w fun e w' => e = .returned (.string (txt (derive (nats key) (n % 18446744073709551616).toNat))) ∧ Below w.heap.size w w' := by
  obtain ⟨ib, hib, hb0, hb1, hb2⟩ := info_parts infoB
  have kc := fun (w : World) (C : Array Value) (n c : Nat) => Lib.run_convert_bytes_const (P := Tryd.prog) w 51 5 C n c Tryd.underlying51 Tryd.underlying5
  obtain ⟨x, hx⟩ : ∃ x : Nat, x = (n % 18446744073709551616).toNat := ⟨_, rfl⟩
  have e1 : IntKind.u64.wrap n = (x : Int) := by rw [IntKind.wrap_u64]; omega
  rw [← hx]
  have H0 : OwnsM (w.alloc (.cells #[.int .u8 107, .int .u8 101, .int .u8 121] 5 (3, 4))) w.heap.size 5 (.slice (some ⟨w.heap.size, 0, none⟩) 3 3) (3 + 0) (byteVals ([107, 101, 121] ++ (eight x).take 0)) :=
    ⟨rfl, .inr ⟨w.heap.size, 3, #[.int .u8 107, .int .u8 101, .int .u8 121], 3, 4, rfl, Nat.le_refl _, heap_alloc_new w _, .inr (by decide), by decide, by unfold maxLen; decide, rfl, rfl⟩⟩
  have HO0 := Lib.hid H0
  have HB0 := Lib.hid ((Below.refl w.heap.size w).alloc (Nat.le_refl _) (.cells #[.int .u8 107, .int .u8 101, .int .u8 121] 5 (3, 4)))
  have HP := Lib.hid hp
  clear hx H0 hp
  go_enter Tryd.func20, Tryd.ntmps20
  go_wp2_with fail
  clear kc
  go_loopg [5, 6] 8 (fun gh s5 s6 wx => ∃ i : Nat, i + gh = 8 ∧ s6 = .int .i64 (56 - 8 * (i : Int)) ∧ OwnsM wx w.heap.size 5 s5 (3 + i) (byteVals ([107, 101, 121] ++ (eight x).take i)) ∧ Below w.heap.size w wx)
  case atStart => exact ⟨0, rfl, by go_num, HO0.out, HB0.out⟩
  case round =>
    obtain ⟨i, hi, rfl, hown, hb⟩ := hrel
    clear HO0 HB0
    obtain ⟨g1, c1, rfl, hg1, hgl1, hn1, _, hcells, _⟩ := hown.open (by omega)
    by_cases h8 : i < 8
    · obtain ⟨sh, hsh⟩ : ∃ sh, sh = 56 - 8 * i := ⟨_, rfl⟩
      have es : (56 : Int) - 8 * (i : Int) = (sh : Int) := by omega
      have es3 : (sh : Int) = 56 - 8 * (i : Int) := by omega
      have ES := Lib.hid es3
      obtain ⟨b, hbd⟩ : ∃ b, b = x / 2 ^ sh % 256 := ⟨_, rfl⟩
      have hE : (eight x)[i]? = some b := by
        have h := eight_at x (7 - i) (by omega)
        rw [show 7 - (7 - i) = i by omega, show 8 * (7 - i) = sh by omega] at h
        rw [h, hbd]
      have k8 : IntKind.u8.wrap ((x : Int) / 2 ^ sh) = (b : Int) := by
        rw [IntKind.wrap_u8, hbd, Int.natCast_emod, Int.natCast_ediv, Int.natCast_pow]
        rfl
      have HT := Lib.hid (show byteVals ([107, 101, 121] ++ (eight x).take i) ++ [.int .u8 (b : Int)] = byteVals ([107, 101, 121] ++ (eight x).take (i + 1)) by
        simp [byteVals, List.take_add_one, hE])
      have HO := Lib.hid (hown.alloc (.cells #[.int .u8 (b : Int)] 5))
      have hs2 := hb.size
      have HB := Lib.hid (hb.alloc hb.size (.cells #[.int .u8 (b : Int)] 5))
      have hsh64 : sh < 64 := by omega
      have hsh64' : (sh : Int) < 64 := by omega
      rw [es]
      clear hown hb hsh hbd hE es es3 hcells
      go_wp2_with ((at_builtin; refine wpList_append_m rfl _ _ 51 rfl w.heap.size 5 ib (.int .u8 0) 1 Tryd.underlying51 hib hb0 hb1 hb2 rfl _ _ _ rfl HO.out ⟨_, 0, none⟩ 1 1 [.int .u8 (b : Int)] rfl rfl (one_at _ _ _ _ (by simp)) (fun u hu => by simp at hu; subst hu; rfl) (by unfold maxLen; omega) (by omega) (by simp; omega) ?_; intro v2 w2 hown2 hgrow2))
      have hB2 : Below w.heap.size w w2 := HB.out.grown hgrow2 (by simp; omega) (fun q hq => (HO.out.lt q hq).1)
      rw [HT.out] at hown2
      have es4 := ES.out
      go_roundg (8 - (i + 1))
      case measure => omega
      case rel => exact ⟨i + 1, by omega, congrArg (Value.int .i64) (by omega), hown2, hB2⟩
    · obtain rfl : i = 8 := by omega
      have ht8 : (eight x).take 8 = eight x := rfl
      rw [ht8] at hcells
      have hcv := text_any wr g1 c1 ([107, 101, 121] ++ eight x) (fun b hb => by
        rcases List.mem_append.1 hb with h | h
        · simp only [List.mem_cons, List.not_mem_nil, or_false] at h
          omega
        · exact eight_lt x b h) (fun j hj => hcells j hj)
      rw [show ([107, 101, 121] ++ eight x : List Nat).length = 11 from rfl] at hcv
      have HT := Lib.hid (macTag key (txt ([107, 101, 121] ++ eight x)) wr hk (by rw [txt_len]; simp [eight_len]) (HP.out.grown hb))
      rw [nats_txt _ (fun b hb => by
        rcases List.mem_append.1 hb with h | h
        · simp only [List.mem_cons, List.not_mem_nil, or_false] at h
          omega
        · exact eight_lt x b h)] at HT
      have HB := Lib.hid hb
      clear hown hb hcells h8
      go_wp2_with (go_at_call 24; refine HT.out.mono ?_; rintro e w3 ⟨rfl, hb3⟩)
      go_ret
      exact ⟨rfl, HB.out.trans (hb3.mono HB.out.size)⟩
end Go.Proofs.YthafeccfcnmefaaDoor
