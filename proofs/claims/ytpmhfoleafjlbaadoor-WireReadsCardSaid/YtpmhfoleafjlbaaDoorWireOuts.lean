/-
  The contracts of the program's Num, Text, Flag, Vec of an Out of chapter 5. The conditions: texts of at most 200,000 bytes; vectors' cells.
-/
import Derived.Test.YtpmhfoleafjlbaaDoorWirePutOk
import Derived.Test.YtpmhfoleafjlbaaDoorMark2
namespace Go.Proofs.YtpmhfoleafjlbaaDoor
open Go.RowKit TextNat

theorem ints_new (zs : List Int) (hz : ∀ z ∈ zs, -9223372036854775808 ≤ z ∧ z ≤ 9223372036854775807) (T : TypeId) (w : World) : Ints (w.alloc (.cells (zs.map (Value.int .i64)).toArray T)) (some ⟨w.heap.size, 0, none⟩) zs := fun i z hi => by
  refine ⟨hz z (List.mem_of_getElem? hi), w.heap.size, 0, rfl, ?_⟩
  rw [Nat.zero_add, cell_of_row _ w.heap.size i _ _ _ (heap_alloc_new w _), List.getElem?_toArray, List.getElem?_map, hi]
  rfl
theorem ints_own {w : World} {base : Nat} {T : TypeId} {p : Option Addr} {c : Nat} (zs : List Int) (hz : ∀ z ∈ zs, -9223372036854775808 ≤ z ∧ z ≤ 9223372036854775807) (n : Nat) (h : OwnsM w base T (.slice p n c) n (zs.map (Value.int .i64))) : Ints w p zs := fun i z hi => by
  have hn : zs.length = n := by have := h.1; rwa [List.length_map] at this
  have hlt : i < zs.length := by
    rcases Nat.lt_or_ge i zs.length with g | g
    · exact g
    · rw [List.getElem?_eq_none g] at hi; cases hi
  obtain ⟨g, cap, hv, _, _, _, _, hcell, _⟩ := h.open (by omega)
  have hp : p = some ⟨g, 0, none⟩ := by simpa using congrArg (fun v => match v with | .slice p _ _ => p | _ => none) hv
  refine ⟨hz z (List.mem_of_getElem? hi), g, 0, hp, ?_⟩
  rw [Nat.zero_add, hcell i (by omega), List.getElem?_map, hi]
  rfl

set_option maxRecDepth 100000 in
theorem num_ok (pb : Nat) (p : WireMath.Put) (n : Int) (w : World) (h : OutAt w pb p) (hn : -9223372036854775808 ≤ n ∧ n ≤ 9223372036854775807) :
    Calls Tryd.prog 10 #[.pointer (some ⟨pb, 0, none⟩), .int .i64 n] w fun e w' => e = .returned (.tuple #[]) ∧ OutAt w' pb (WireMath.putN p [n] []) ∧ But pb w w' := by
  have HP := Lib.hid (put_ok pb p ⟨#[]⟩ (some ⟨w.heap.size, 0, none⟩) 1 [n] (w.alloc (.cells #[.int .i64 n] 3)) (h.below ((Below.refl _ _).alloc (Nat.le_refl _) _)) (ints_new [n] (fun z hz => by rw [List.mem_singleton.1 hz]; exact hn) 3 w) (show 0 ≤ 200000 by omega) Nat.one_pos (show 1 ≤ 17 by omega))
  clear h
  go_enter Tryd.func10, Tryd.ntmps10
  go_wp2_with (go_at_call 32; refine HP.out.mono ?_; rintro e w2 ⟨rfl, ho, hb⟩)
  go_end0
  exact ⟨rfl, ho, ((But.refl pb w).alloc _).trans hb⟩

set_option maxRecDepth 100000 in
theorem text_ok (pb : Nat) (p : WireMath.Put) (s : ByteArray) (w : World) (h : OutAt w pb p) (hs : s.size ≤ 200000) :
    Calls Tryd.prog 11 #[.pointer (some ⟨pb, 0, none⟩), .string s] w fun e w' => e = .returned (.tuple #[]) ∧ OutAt w' pb (WireMath.putN p [(s.size : Int)] (nats s)) ∧ But pb w w' := by
  have HP := Lib.hid (put_ok pb p s (some ⟨w.heap.size, 0, none⟩) 1 [(s.size : Int)] (w.alloc (.cells #[.int .i64 (s.size : Int)] 3)) (h.below ((Below.refl _ _).alloc (Nat.le_refl _) _)) (ints_new [(s.size : Int)] (fun z hz => by rw [List.mem_singleton.1 hz]; omega) 3 w) hs (Nat.one_pos) (show 1 ≤ 17 by omega))
  clear h
  go_enter Tryd.func11, Tryd.ntmps11
  go_wp2_with (go_at_call 32; refine HP.out.mono ?_; rintro e w2 ⟨rfl, ho, hb⟩)
  go_end0
  exact ⟨rfl, ho, ((But.refl pb w).alloc _).trans hb⟩

set_option maxRecDepth 100000 in
theorem flag_ok (pb : Nat) (p : WireMath.Put) (b : Bool) (w : World) (h : OutAt w pb p) :
    Calls Tryd.prog 12 #[.pointer (some ⟨pb, 0, none⟩), .bool b] w fun e w' => e = .returned (.tuple #[]) ∧ OutAt w' pb (WireMath.putN p [if b then 1 else 0] []) ∧ But pb w w' := by
  have HP := Lib.hid (fun (z : Int) (hz : z = 0 ∨ z = 1) => put_ok pb p ⟨#[]⟩ (some ⟨w.heap.size, 0, none⟩) 1 [z] (w.alloc (.cells #[.int .i64 z] 3)) (h.below ((Below.refl _ _).alloc (Nat.le_refl _) _)) (ints_new [z] (fun y hy => by rw [List.mem_singleton.1 hy]; omega) 3 w) (show 0 ≤ 200000 by omega) Nat.one_pos (show 1 ≤ 17 by omega))
  clear h
  cases b
  · go_enter Tryd.func12, Tryd.ntmps12
    go_wp2_with (go_at_call 32; refine (HP.out 0 (.inl rfl)).mono ?_; rintro e w2 ⟨rfl, ho, hb⟩)
    go_end0
    exact ⟨rfl, ho, ((But.refl pb w).alloc _).trans hb⟩
  · go_enter Tryd.func12, Tryd.ntmps12
    go_wp2_with (go_at_call 32; refine (HP.out 1 (.inr rfl)).mono ?_; rintro e w2 ⟨rfl, ho, hb⟩)
    go_end0
    exact ⟨rfl, ho, ((But.refl pb w).alloc _).trans hb⟩

/-- A vector, or a fault. -/
def putVec (p : WireMath.Put) (zs : List Int) : WireMath.Put := if zs.length ≤ 16 ∧ whole_ zs = true then WireMath.putN p ((zs.length : Int) :: zs) [] else fail_ p 1
set_option maxRecDepth 100000 in
set_option maxHeartbeats 2000000 in
theorem vec_ok (pb : Nat) (p : WireMath.Put) (pp : Option Addr) (cap : Nat) (zs : List Int) (w : World) (h : OutAt w pb p) (hz : Ints w pp zs) (hl : zs.length ≤ 9223372036854775807) :
    Calls Tryd.prog 13 #[.pointer (some ⟨pb, 0, none⟩), .slice pp zs.length cap] w fun e w' => e = .returned (.tuple #[]) ∧ OutAt w' pb (putVec p zs) ∧ But pb w w' := by
  have HT := Lib.hid (trimmed_ok pp cap zs w hz hl)
  have HR := Lib.hid (refuse_ok pb 1 p w h (.inl rfl))
  obtain ⟨N, hN⟩ : ∃ N, N = zs.length := ⟨_, rfl⟩
  by_cases h16 : zs.length ≤ 16
  · have t1 : decide ((16 : Int) < (N : Int)) = false := decide_eq_false (by omega)
    have t1' : decide (16 < N) = false := decide_eq_false (by omega)
    cases htr : whole_ zs with
    | false =>
      rw [htr] at HT
      have HF := Lib.hid (show putVec p zs = fail_ p 1 by unfold putVec; rw [if_neg (by rw [htr]; simp)])
      rw [← hN] at HT ⊢
      clear h hz hl h16 htr hN
      go_enter Tryd.func13, Tryd.ntmps13
      go_wp2_with (first
        | (go_at_call 33; refine HT.out.mono ?_; rintro e w2 ⟨rfl, rfl⟩)
        | (go_at_call 34; refine HR.out.mono ?_; rintro e w2 ⟨rfl, ho, hb⟩))
      refine bodyPost_ret (results_none rfl _ _ _) rfl ?_
      rw [HF.out]
      exact ⟨rfl, ho, hb⟩
    | true =>
      rw [htr] at HT
      have HF := Lib.hid (show putVec p zs = WireMath.putN p ((zs.length : Int) :: zs) [] by unfold putVec; rw [if_pos ⟨h16, htr⟩])
      have HH := Lib.hid h
      have HZ := Lib.hid hz
      have HNN := Lib.hid hN
      have hN16 : N ≤ 16 := by omega
      have O1 : OwnsM (w.alloc (.cells #[.int .i64 (N : Int)] 3)) w.heap.size 3 (.slice (some ⟨w.heap.size, 0, none⟩) 1 1) 1 [.int .i64 (N : Int)] :=
        ⟨rfl, .inr ⟨w.heap.size, 1, _, 0, 0, rfl, Nat.le_refl _, heap_alloc_new w _, .inl rfl, Nat.le_refl _, by decide, rfl, rfl⟩⟩
      have HO1 := Lib.hid O1
      have hZ1 : ∀ j u, (zs.map (Value.int .i64))[j]? = some u → ∃ ad, pp = some ad ∧ (w.alloc (.cells #[.int .i64 (N : Int)] 3)).cell? (ad.add j) = some u := fun j u hj => by
        rw [List.getElem?_map] at hj
        cases hd : zs[j]? with
        | none => rw [hd] at hj; cases hj
        | some z =>
          rw [hd] at hj
          obtain rfl := Option.some.inj hj
          obtain ⟨_, b, off, hp, hc⟩ := hz.grown ((Below.refl _ _).alloc (Nat.le_refl _) (.cells #[.int .i64 (N : Int)] 3)) j z hd
          exact ⟨⟨b, off, none⟩, hp, by rw [WideShapes.add_plain]; exact hc⟩
      have HZ1 := Lib.hid hZ1
      have HZl := Lib.hid (show (zs.map (Value.int .i64)).length = N by rw [List.length_map, hN])
      have HZo := Lib.hid (show ∀ u ∈ zs.map (Value.int .i64), u.oneCell' = true from fun u hu => by
        obtain ⟨z, _, rfl⟩ := List.mem_map.1 hu
        rfl)
      have HZr := Lib.hid (show ∀ z ∈ (N : Int) :: zs, -9223372036854775808 ≤ z ∧ z ≤ 9223372036854775807 from fun z hm => by
        rcases List.mem_cons.1 hm with rfl | hm
        · omega
        · obtain ⟨i, hi⟩ := List.getElem?_of_mem hm
          exact (hz i z hi).1)
      obtain ⟨ii, hii, hi0, hi1, hi2⟩ := info_parts info_int
      rw [← hN] at HT ⊢
      clear h hz hl h16 htr hN O1 hZ1
      go_enter Tryd.func13, Tryd.ntmps13
      go_wp2_with (first
        | (go_at_call 33; refine HT.out.mono ?_; rintro e w2 ⟨rfl, rfl⟩)
        | (at_builtin; refine wpList_append_any rfl _ _ 51 52 rfl w2.heap.size 3 3 ii (.int .i64 0) 8 Tryd.underlying51 Tryd.underlying52 hii hi0 hi1 hi2 rfl _ _ _ rfl HO1.out pp N cap (zs.map (Value.int .i64)) rfl HZl.out HZ1.out HZo.out (by unfold maxLen; omega) (by omega) (by simp) ?_; intro v3 w3 hown3 hgrow3; have hb3 := below_grown HO1.out (Nat.le_refl _) ((Below.refl w2.heap.size w2).alloc (Nat.le_refl _) (.cells #[.int .i64 (N : Int)] 3)) hgrow3; obtain ⟨p3, c3, rfl⟩ := hown3.shape; have hp3 := put_ok pb p ⟨#[]⟩ p3 c3 ((N : Int) :: zs) w3 (HH.out.below hb3) (ints_own _ HZr.out (1 + N) hown3) (Nat.zero_le _) (Nat.succ_pos _) (by rw [List.length_cons, ← HNN.out]; omega); rw [List.length_cons, ← HNN.out, Nat.add_comm N 1] at hp3; have HP3 := Lib.hid hp3; have HB3 := Lib.hid hb3; clear hown3 hgrow3 hp3 hb3)
        | (go_at_call 32; refine HP3.out.mono ?_; rintro e w4 ⟨rfl, ho, hb⟩))
      go_end0
      rw [HF.out, ← HNN.out]
      exact ⟨rfl, ho, (But.of HB3.out).trans hb⟩
  · have t1 : decide ((16 : Int) < (N : Int)) = true := decide_eq_true (by omega)
    have t1' : decide (16 < N) = true := decide_eq_true (by omega)
    have HF := Lib.hid (show putVec p zs = fail_ p 1 by unfold putVec; rw [if_neg (fun h => h16 h.1)])
    rw [← hN] at HT ⊢
    clear h hz hl h16 hN
    go_enter Tryd.func13, Tryd.ntmps13
    go_wp2_with (go_at_call 34; refine HR.out.mono ?_; rintro e w2 ⟨rfl, ho, hb⟩)
    refine bodyPost_ret (results_none rfl _ _ _) rfl ?_
    rw [HF.out]
    exact ⟨rfl, ho, hb⟩
end Go.Proofs.YtpmhfoleafjlbaaDoor
