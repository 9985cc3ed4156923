/-
  The contract of chapter 6's helper vectors: the vectors, as api has them. The conditions: the vectors' cells; at most 10,000.
-/
import Derived.Test.YtkdjfeaaojecdaaVecOpen
import Derived.Test.YtkdjfeaaojecdaaVecTrim
namespace Go.Proofs.Ytkdjfeaaojecdaa
open Go.RowKit

theorem info_vector : (Try.prog.info? 26).map (fun i => (i.zero, i.size, i.bytes)) = some (some (.slice none 0 0), 1, 24) := by kernel_rfl
theorem vecs_own {B : Nat} {w : World} {v : Value} {T : TypeId} {vs : List Vc} (h : OwnsM w B T v vs.length (vs.map Vc.cell)) (hz : ∀ x ∈ vs, Ints w x.p x.l) : ∃ p c, v = .slice p vs.length c ∧ VecsIn w p vs := by
  obtain ⟨p, c, rfl⟩ := OwnsM.shape h
  refine ⟨p, c, rfl, fun i x hx => ?_⟩
  have hi := (List.getElem?_eq_some_iff.1 hx).1
  obtain ⟨g, cap, hv, _, _, _, _, hcell, _⟩ := OwnsM.open h (by omega)
  have hp : p = some ⟨g, 0, none⟩ := by simpa using congrArg (fun v => match v with | .slice p _ _ => p | _ => none) hv
  refine ⟨g, 0, hp, ?_, hz x (List.mem_of_getElem? hx)⟩
  rw [Nat.zero_add, hcell i hi, List.getElem?_map, hx]
  rfl
set_option maxRecDepth 100000 in
set_option maxHeartbeats 4000000 in
theorem vectors_ok (pp : Option Addr) (c : Nat) (vs : List Vc) (w : World) (h : VecsIn w pp vs) (hl : vs.length ≤ 10000) :
    Calls Try.prog 18 #[.slice pp vs.length c] w fun e w' => (∃ p cc, e = .returned (.slice p vs.length cc) ∧ VecsIn w' p vs) ∧ Below w.heap.size w w' := by
  obtain ⟨ii, hii, hi0, hi1, hi2⟩ := info_parts info_vector
  obtain ⟨N, hN⟩ : ∃ N, N = vs.length := ⟨_, rfl⟩
  have HI := Lib.hid h
  have HN := Lib.hid hN
  rw [← hN] at hl ⊢
  clear h hN
  go_enter Try.func18, Try.ntmps18
  go_wp2_with fail
  go_loopg [3, 7] N (fun gh s3 s4 wx => ∃ i : Nat, i + gh = N ∧ s4 = .int .i64 (i : Int) ∧ OwnsM wx w.heap.size 26 s3 i ((vs.take i).map Vc.cell) ∧ Below w.heap.size w wx)
  case atStart => exact ⟨0, by omega, by go_num, ⟨rfl, .inl ⟨rfl, rfl⟩⟩, Below.refl _ _⟩
  case round =>
    obtain ⟨i, hi, rfl, ho, hb⟩ := hrel
    have HOr := Lib.hid ho
    have HBr := Lib.hid hb
    obtain ⟨p3, c3, rfl⟩ := OwnsM.shape ho
    clear ho hb
    by_cases hiN : i < N
    · have t1 : decide ((i : Int) < (N : Int)) = true := decide_eq_true (by omega)
      have t1' : decide (i < N) = true := decide_eq_true hiN
      obtain ⟨v, hv⟩ : ∃ v, vs[i]? = some v := ⟨_, List.getElem?_eq_getElem (by rw [← HN.out]; exact hiN)⟩
      obtain ⟨b, off, rfl, hcv, _⟩ := (HI.out.grown HBr.out) i v hv
      have HT := Lib.hid (show (vs.take (i + 1)).map Vc.cell = (vs.take i).map Vc.cell ++ [.slice v.p v.l.length v.c] by rw [List.take_add_one, hv]; simp [Vc.cell])
      have HO2 := Lib.hid (HOr.out.alloc (.cells #[.slice v.p v.l.length v.c] 26))
      have HB2 := Lib.hid (HBr.out.alloc HBr.out.size (.cells #[.slice v.p v.l.length v.c] 26))
      clear hv
      go_wp2_with (at_builtin; refine wpList_append_m rfl _ _ 36 rfl w.heap.size 26 ii (.slice none 0 0) 24 Try.underlying36 hii hi0 hi1 hi2 rfl _ _ _ rfl HO2.out ⟨_, 0, none⟩ 1 1 [.slice v.p v.l.length v.c] rfl rfl (one_put _ _ _ _ (by simp)) (fun x hx => by simp at hx; subst hx; rfl) (by unfold maxLen; omega) (by omega) HB2.out.size ?_; intro v2 w4 hown2 hgrow2)
      go_roundg (N - (i + 1))
      case measure => omega
      case rel => exact ⟨i + 1, by omega, by go_num, by rw [HT.out]; exact hown2, HB2.out.grown hgrow2 HB2.out.size (fun q hq => (OwnsM.lt HO2.out q hq).1)⟩
    · have t1 : decide ((i : Int) < (N : Int)) = false := decide_eq_false (by omega)
      have t1' : decide (i < N) = false := decide_eq_false hiN
      have HE := Lib.hid (show ∃ p c, Value.slice p3 i c3 = .slice p N c ∧ VecsIn wr p vs from by
        have ho := HOr.out
        have hiN' : i = vs.length := by rw [← HN.out]; omega
        rw [List.take_of_length_le (by omega), hiN'] at ho
        rw [hiN', HN.out]
        exact vecs_own ho (fun x hx => by
          obtain ⟨j, hj⟩ := List.getElem?_of_mem hx
          obtain ⟨_, _, _, _, hz⟩ := (HI.out.grown HBr.out) j x hj
          exact hz))
      go_wp2
      go_ret
      obtain ⟨p, c', he, hv⟩ := HE.out
      exact ⟨⟨p, c', by rw [← he]; rfl, hv⟩, HBr.out⟩
end Go.Proofs.Ytkdjfeaaojecdaa
