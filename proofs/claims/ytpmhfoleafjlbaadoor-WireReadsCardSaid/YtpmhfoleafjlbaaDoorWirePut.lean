/-
  Plain mathematics of chapter 5: what one call puts: some numbers, and bytes behind them. No program, no conditions but those typed.
-/
import Derived.Test.YtpmhfoleafjlbaaDoorWireGood
namespace WireMath

def mayNum (z : Int) : Bool := decide (0 ≤ z) && decide (z ≤ top)
def numsBytes (zs : List Int) : List Nat := zs.flatMap fun z => num z.toNat
theorem numsBytes_snoc (zs : List Int) (z : Int) : numsBytes (zs ++ [z]) = numsBytes zs ++ num z.toNat := by
  unfold numsBytes
  rw [List.flatMap_append, List.flatMap_cons, List.flatMap_nil, List.append_nil]
theorem numsBytes_len : ∀ zs : List Int, (numsBytes zs).length ≤ 9 * zs.length
  | [] => Nat.le_refl _
  | z :: r => by
    have h1 := num_len z.toNat
    have h2 := numsBytes_len r
    show (num z.toNat ++ numsBytes r).length ≤ _
    rw [List.length_append, List.length_cons]
    omega
theorem numsBytes_lt : ∀ zs : List Int, zs.all mayNum = true → ∀ b ∈ numsBytes zs, b < 256
  | [], _, b, hb => by cases hb
  | z :: r, h, b, hb => by
    simp only [List.all_cons, Bool.and_eq_true] at h
    have hb' : b ∈ num z.toNat ++ numsBytes r := hb
    rcases List.mem_append.1 hb' with hb | hb
    · have h1 := h.1
      unfold mayNum top at h1
      simp only [Bool.and_eq_true, decide_eq_true_eq] at h1
      exact num_lt _ (by omega) b hb
    · exact numsBytes_lt r h.2 b hb
/-- Numbers, and bytes behind them: all of it, or a fault. -/
def putN (p : Put) (zs : List Int) (s : List Nat) : Put :=
  match p.bad with
  | some _ => p
  | none => if zs.all mayNum then if 65536 < p.out.length + (numsBytes zs ++ s).length then ⟨p.out, some (3, p.out.length)⟩ else ⟨p.out ++ (numsBytes zs ++ s), none⟩
    else ⟨p.out, some (1, p.out.length)⟩
theorem putN_bad {p : Put} {q : Nat × Nat} (h : p.bad = some q) (zs : List Int) (s : List Nat) : putN p zs s = p := by unfold putN; rw [h]
theorem putN_arg {p : Put} (h : p.bad = none) {zs : List Int} {i : Nat} {z : Int} (hz : zs[i]? = some z) (hm : mayNum z = false) (s : List Nat) : putN p zs s = ⟨p.out, some (1, p.out.length)⟩ := by
  unfold putN
  rw [h]
  have : zs.all mayNum = false := by
    rw [Bool.eq_false_iff]
    intro ha
    rw [List.all_eq_true] at ha
    rw [ha z (List.mem_of_getElem? hz)] at hm
    cases hm
  simp only
  rw [this, if_neg (by decide)]
theorem putN_long {p : Put} (h : p.bad = none) {zs : List Int} {s : List Nat} (ha : zs.all mayNum = true) (hl : 65536 < p.out.length + (numsBytes zs ++ s).length) : putN p zs s = ⟨p.out, some (3, p.out.length)⟩ := by
  unfold putN
  rw [h]
  simp only
  rw [if_pos ha, if_pos hl]
theorem putN_ok {p : Put} (h : p.bad = none) {zs : List Int} {s : List Nat} (ha : zs.all mayNum = true) (hl : ¬ 65536 < p.out.length + (numsBytes zs ++ s).length) : putN p zs s = ⟨p.out ++ (numsBytes zs ++ s), none⟩ := by
  unfold putN
  rw [h]
  simp only
  rw [if_pos ha, if_neg hl]
end WireMath
