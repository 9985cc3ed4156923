/-
  strings.Cut at a semicolon, and at an equals sign: what stands ahead of the first one, and behind it. The condition: a text of fewer than 2^63 - 1 bytes.
-/
import Derived.Lib.IndexLaws
import Derived.Test.YtlgofepmdjlpgaaDoorIndexByte
import Derived.Test.YtlgofepmdjlpgaaDoorPart03
import Derived.Test.YtlgofepmdjlpgaaDoorPart11
import Derived.Below
import Derived.Lib.Hide
namespace Go.Proofs.YtlgofepmdjlpgaaDoor
open Go.RowKit TextNat BakeMath

theorem cut_bytes (s : ByteArray) (c : UInt8) (j : Nat) : s.data.toList[j]? = some c ↔ (nats s)[j]? = some c.toNat := by
  unfold nats
  rw [List.getElem?_map]
  cases h : s.data.toList[j]? with
  | none => simp
  | some b =>
    simp only [Option.map_some, Option.some.injEq]
    constructor
    · rintro rfl; rfl
    · intro h2; exact UInt8.toNat_inj.1 h2
theorem cutAt_at {c : Nat} : ∀ {l : List Nat} {i : Nat}, (∀ j, j < i → l[j]? ≠ some c) → l[i]? = some c → cutAt c l = (l.take i, l.drop (i + 1), true)
  | [], i, _, h => by simp at h
  | b :: r, 0, _, h => by
    simp only [List.getElem?_cons_zero, Option.some.injEq] at h
    rw [cutAt, if_pos h]
    rfl
  | b :: r, i + 1, hn, h => by
    have hb : ¬ b = c := fun e => hn 0 (by omega) (by rw [e]; rfl)
    have h2 := cutAt_at (c := c) (l := r) (i := i) (fun j hj => by have := hn (j + 1) (by omega); rwa [List.getElem?_cons_succ] at this) (by rwa [List.getElem?_cons_succ] at h)
    rw [cutAt, if_neg hb, h2]
    rfl
theorem cutAt_nowhere {c : Nat} {l : List Nat} (h : ∀ j : Nat, l[j]? ≠ some c) : cutAt c l = (l, [], false) := cutAt_none fun hm => by
  obtain ⟨j, hj, he⟩ := List.mem_iff_getElem.1 hm
  exact h j (by rw [List.getElem?_eq_getElem hj, he])
theorem cut_cases (s : ByteArray) (c : UInt8) : (Lib.indexByte s.data.toList c = -1 ∧ cutAt c.toNat (nats s) = (nats s, [], false)) ∨ ∃ i : Nat, Lib.indexByte s.data.toList c = (i : Int) ∧ i < s.size ∧ cutAt c.toNat (nats s) = (nats (s.extract 0 i), nats (s.extract (i + 1) s.size), true) := by
  have hge := Lib.indexByte_ge s.data.toList c
  by_cases h : Lib.indexByte s.data.toList c = -1
  · exact .inl ⟨h, cutAt_nowhere fun j hj => Lib.indexByte_none h j ((cut_bytes s c j).2 hj)⟩
  · obtain ⟨i, hi⟩ : ∃ i : Nat, Lib.indexByte s.data.toList c = (i : Int) := ⟨(Lib.indexByte s.data.toList c).toNat, by omega⟩
    obtain ⟨h1, h2⟩ := Lib.indexByte_some hi
    refine .inr ⟨i, hi, ?_, ?_⟩
    · have := (List.getElem?_eq_some_iff.1 h1).1
      simpa using this
    · rw [cutAt_at (fun j hj he => h2 j hj ((cut_bytes s c j).2 he)) ((cut_bytes s c i).1 h1), take_txt, drop_txt, nats_txt _ (fun b hb => nats_lt s b (List.mem_of_mem_take hb)), nats_txt _ (fun b hb => nats_lt s b (List.mem_of_mem_drop hb))]
set_option maxRecDepth 100000 in
theorem lite_index (s : ByteArray) (c : Int) (w : World) :
    Calls Tryd.prog 56 #[.string s, .int .u8 c] w fun e w' => e = .returned (.int .i64 (Lib.indexByte s.data.toList c.toNat.toUInt8)) ∧ w' = w := by
  go_enter Tryd.func56, Tryd.ntmps56
  go_wp2
  rw [run_callFunc_extern Tryd.func71 (by kernel_rfl) (by kernel_rfl) (by kernel_rfl) (e := Extern.BytealgIndexByte.indexByte) (by kernel_rfl), Lib.run_indexByteString]
  simp only [Result.andThen]
  rw [Oper.upon_value]
  go_wp2
  go_ret
  exact ⟨rfl, rfl⟩
set_option maxRecDepth 100000 in
theorem lite_semi (s : ByteArray) (w : World) :
    Calls Tryd.prog 51 #[.string s, .string ⟨#[59]⟩] w fun e w' => e = .returned (.int .i64 (Lib.indexByte s.data.toList 59)) ∧ w' = w := by
  have HI := Lib.hid (lite_index s 59 w)
  go_enter Tryd.func51, Tryd.ntmps51
  go_wp2_with (go_at_call 56; refine HI.out.mono ?_; rintro e w2 ⟨rfl, rfl⟩)
  · have h1 : ([59] == s.toList) = true := by assumption
    have h2 : s.data.toList = [59] := by
      rw [beq_iff_eq, ByteArray.toList_eq] at h1
      exact h1.symm
    have h3 : Lib.indexByte s.data.toList 59 = 0 := by rw [h2]; rfl
    clear h1 h2
    rw [h3]
    go_ret
    exact ⟨rfl, rfl⟩
  · go_ret
    exact ⟨rfl, rfl⟩
set_option maxRecDepth 100000 in
theorem litecut_semi (s : ByteArray) (w : World) (hs : s.size ≤ 9223372036854775806) :
    Calls Tryd.prog 37 #[.string s, .string ⟨#[59]⟩] w fun e w' => e = .returned (.tuple #[.string (txt (cutAt 59 (nats s)).1), .string (txt (cutAt 59 (nats s)).2.1), .bool (cutAt 59 (nats s)).2.2]) ∧ Below w.heap.size w w' := by
  have HI := Lib.hid (lite_semi s w)
  rcases cut_cases s 59 with ⟨h1, h2⟩ | ⟨i, h1, h2, h3⟩
  · replace h2 : cutAt 59 (nats s) = (nats s, [], false) := h2
    rw [h2]
    rw [h1] at HI
    have HA := Lib.hid (txt_nats s)
    clear h1 h2
    go_enter Tryd.func37, Tryd.ntmps37
    go_wp2_with fail
    refine HI.out.mono ?_
    rintro e w2 ⟨rfl, rfl⟩
    go_wp2
    go_ret3
    exact ⟨by rw [HA.out]; rfl, Below.refl _ _⟩
  · replace h3 : cutAt 59 (nats s) = (nats (s.extract 0 i), nats (s.extract (i + 1) s.size), true) := h3
    rw [h3, txt_nats, txt_nats]
    rw [h1] at HI
    have c1 : (0 : Int) ≤ (i : Int) := by omega
    have c2 : (i : Int) ≤ (s.size : Int) := by omega
    obtain ⟨j, hj⟩ : ∃ j, j = i + 1 := ⟨_, rfl⟩
    rw [← hj]
    have k1 : IntKind.i64.wrap ((i : Int) + 1) = (j : Int) := by rw [IntKind.wrap_i64]; omega
    have c3 : (0 : Int) ≤ (j : Int) := by omega
    have c4 : (j : Int) ≤ (s.size : Int) := by omega
    have mixed : Tryd.prog.follows .mixedOrders = true := by kernel_rfl
    clear hj
    clear h1 h3
    go_enter Tryd.func37, Tryd.ntmps37
    go_wp2_with fail
    refine HI.out.mono ?_
    rintro e w2 ⟨rfl, rfl⟩
    go_wp2
    go_region_o
    go_wp2
    go_ret3
    exact ⟨rfl, (Below.refl _ _).drew⟩
set_option maxRecDepth 100000 in
theorem cut_semi (s : ByteArray) (w : World) (hs : s.size ≤ 9223372036854775806) :
    Calls Tryd.prog 21 #[.string s, .string ⟨#[59]⟩] w fun e w' => e = .returned (.tuple #[.string (txt (cutAt 59 (nats s)).1), .string (txt (cutAt 59 (nats s)).2.1), .bool (cutAt 59 (nats s)).2.2]) ∧ Below w.heap.size w w' := by
  have HI := Lib.hid (litecut_semi s w hs)
  go_enter Tryd.func21, Tryd.ntmps21
  go_wp2_with fail
  refine HI.out.mono ?_
  rintro e w2 ⟨rfl, hb⟩
  have HB := Lib.hid hb
  clear hb
  go_wp2
  go_ret3
  exact ⟨rfl, HB.out⟩
set_option maxRecDepth 100000 in
theorem lite_equals (s : ByteArray) (w : World) :
    Calls Tryd.prog 51 #[.string s, .string ⟨#[61]⟩] w fun e w' => e = .returned (.int .i64 (Lib.indexByte s.data.toList 61)) ∧ w' = w := by
  have HI := Lib.hid (lite_index s 61 w)
  go_enter Tryd.func51, Tryd.ntmps51
  go_wp2_with (go_at_call 56; refine HI.out.mono ?_; rintro e w2 ⟨rfl, rfl⟩)
  · have h1 : ([61] == s.toList) = true := by assumption
    have h2 : s.data.toList = [61] := by
      rw [beq_iff_eq, ByteArray.toList_eq] at h1
      exact h1.symm
    have h3 : Lib.indexByte s.data.toList 61 = 0 := by rw [h2]; rfl
    clear h1 h2
    rw [h3]
    go_ret
    exact ⟨rfl, rfl⟩
  · go_ret
    exact ⟨rfl, rfl⟩
set_option maxRecDepth 100000 in
theorem litecut_equals (s : ByteArray) (w : World) (hs : s.size ≤ 9223372036854775806) :
    Calls Tryd.prog 37 #[.string s, .string ⟨#[61]⟩] w fun e w' => e = .returned (.tuple #[.string (txt (cutAt 61 (nats s)).1), .string (txt (cutAt 61 (nats s)).2.1), .bool (cutAt 61 (nats s)).2.2]) ∧ Below w.heap.size w w' := by
  have HI := Lib.hid (lite_equals s w)
  rcases cut_cases s 61 with ⟨h1, h2⟩ | ⟨i, h1, h2, h3⟩
  · replace h2 : cutAt 61 (nats s) = (nats s, [], false) := h2
    rw [h2]
    rw [h1] at HI
    have HA := Lib.hid (txt_nats s)
    clear h1 h2
    go_enter Tryd.func37, Tryd.ntmps37
    go_wp2_with fail
    refine HI.out.mono ?_
    rintro e w2 ⟨rfl, rfl⟩
    go_wp2
    go_ret3
    exact ⟨by rw [HA.out]; rfl, Below.refl _ _⟩
  · replace h3 : cutAt 61 (nats s) = (nats (s.extract 0 i), nats (s.extract (i + 1) s.size), true) := h3
    rw [h3, txt_nats, txt_nats]
    rw [h1] at HI
    have c1 : (0 : Int) ≤ (i : Int) := by omega
    have c2 : (i : Int) ≤ (s.size : Int) := by omega
    obtain ⟨j, hj⟩ : ∃ j, j = i + 1 := ⟨_, rfl⟩
    rw [← hj]
    have k1 : IntKind.i64.wrap ((i : Int) + 1) = (j : Int) := by rw [IntKind.wrap_i64]; omega
    have c3 : (0 : Int) ≤ (j : Int) := by omega
    have c4 : (j : Int) ≤ (s.size : Int) := by omega
    have mixed : Tryd.prog.follows .mixedOrders = true := by kernel_rfl
    clear hj
    clear h1 h3
    go_enter Tryd.func37, Tryd.ntmps37
    go_wp2_with fail
    refine HI.out.mono ?_
    rintro e w2 ⟨rfl, rfl⟩
    go_wp2
    go_region_o
    go_wp2
    go_ret3
    exact ⟨rfl, (Below.refl _ _).drew⟩
set_option maxRecDepth 100000 in
theorem cut_equals (s : ByteArray) (w : World) (hs : s.size ≤ 9223372036854775806) :
    Calls Tryd.prog 21 #[.string s, .string ⟨#[61]⟩] w fun e w' => e = .returned (.tuple #[.string (txt (cutAt 61 (nats s)).1), .string (txt (cutAt 61 (nats s)).2.1), .bool (cutAt 61 (nats s)).2.2]) ∧ Below w.heap.size w w' := by
  have HI := Lib.hid (litecut_equals s w hs)
  go_enter Tryd.func21, Tryd.ntmps21
  go_wp2_with fail
  refine HI.out.mono ?_
  rintro e w2 ⟨rfl, hb⟩
  have HB := Lib.hid hb
  clear hb
  go_wp2
  go_ret3
  exact ⟨rfl, HB.out⟩
end Go.Proofs.YtlgofepmdjlpgaaDoor
