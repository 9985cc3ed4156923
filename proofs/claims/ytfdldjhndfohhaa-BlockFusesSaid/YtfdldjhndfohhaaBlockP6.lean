/-
  The contracts of the program's device of chapter 8: what Crash counts, and Crash. No conditions but those typed.
-/
import Derived.Test.YtfdldjhndfohhaaBlockP5
import Derived.Test.YtfdldjhndfohhaaTextEq
namespace Go.Proofs.Ytfdldjhndfohhaa
open Go.RowKit BlockMath TextNat

theorem prest (k m : Int) (hm : 0 < m) : (k.tmod m + m).tmod m = k % m ∧ -m ≤ k.tmod m ∧ k.tmod m < m := by
  have h0 := Int.emod_nonneg k (show m ≠ 0 by omega)
  have h1 := Int.emod_lt_of_pos k hm
  have h2 := Int.tmod_eq_emod (a := k) (b := m)
  have hab : (m.natAbs : Int) = m := by omega
  have h3 : 0 ≤ k.tmod m + m ∧ (k.tmod m = k % m ∨ k.tmod m = k % m - m) := by
    split at h2
    · rw [h2]
      omega
    · rw [h2, hab]
      omega
  refine ⟨?_, by omega, by omega⟩
  rw [Int.tmod_eq_emod_of_nonneg h3.1, Int.add_emod_right]
  rcases h3.2 with h | h <;> rw [h]
  · exact Int.emod_emod_of_dvd _ (Int.dvd_refl m)
  · rw [Int.sub_emod_right, Int.emod_emod_of_dvd _ (Int.dvd_refl m)]
set_option maxRecDepth 100000 in
theorem restR (k m : Int) (w : World) (hm : 0 < m) (hm2 : m ≤ 2000000) : Calls Try.prog 24 #[.int .i64 k, .int .i64 m] w fun e w' => e = .returned (.int .i64 (k % m)) ∧ w' = w := by
  obtain ⟨h1, h2, h3⟩ := prest k m hm
  obtain ⟨q, hq⟩ : ∃ q, q = k.tmod m := ⟨_, rfl⟩
  rw [← hq] at h1 h2 h3
  have hr0 := Int.emod_nonneg k (show m ≠ 0 by omega)
  have hr1 := Int.emod_lt_of_pos k hm
  obtain ⟨r, hr⟩ : ∃ r, r = k % m := ⟨_, rfl⟩
  rw [← hr] at h1 hr0 hr1 ⊢
  have hq1 := hq.symm
  have z0 : (m == 0) = false := by rw [beq_eq_false_iff_ne]; omega
  have n1 : IntKind.i64.wrap q = q := by rw [IntKind.wrap_i64]; omega
  have n2 : IntKind.i64.wrap (q + m) = q + m := by rw [IntKind.wrap_i64]; omega
  have n3 : IntKind.i64.wrap r = r := by rw [IntKind.wrap_i64]; omega
  clear hq hr
  go_enter Try.func24, Try.ntmps24
  go_wp2
  go_ret
  exact ⟨rfl, rfl⟩
/-- Does a mask spare a place? -/
def sparesB (mask : ByteArray) (i : Nat) : Bool := decide (mask.size = 0) || decide ((nats mask)[i % mask.size]?.getD 0 % 2 = 1)
theorem left_spares (mask : ByteArray) (i c : Nat) : left mask i c = if sparesB mask i then c else 0 := by
  unfold left sparesB
  by_cases h : mask.size = 0
  · rw [if_pos h, decide_eq_true h]
    rfl
  · rw [if_neg h, decide_eq_false h, Bool.false_or]
    by_cases h2 : (nats mask)[i % mask.size]?.getD 0 % 2 = 0
    · rw [if_pos h2, decide_eq_false (by omega)]
      rfl
    · rw [if_neg h2, decide_eq_true (by omega)]
      rfl
set_option maxRecDepth 100000 in
theorem sparesR (mask : ByteArray) (i : Nat) (w : World) (hi : i ≤ 2000000) (hs : mask.size ≤ 1000000) : Calls Try.prog 25 #[.string mask, .int .i64 (i : Int)] w fun e w' => e = .returned (.bool (sparesB mask i)) ∧ w' = w := by
  by_cases hm : mask.size = 0
  · have he : mask = ⟨#[]⟩ := ba_ext (Array.eq_empty_of_size_eq_zero hm)
    subst he
    have hb : sparesB ⟨#[]⟩ i = true := rfl
    rw [hb]
    clear hb hm
    go_enter Try.func25, Try.ntmps25
    go_wp2
    go_ret
    exact ⟨rfl, rfl⟩
  · have he : ¬ mask = ⟨#[]⟩ := fun h => hm (by rw [h]; rfl)
    have kl := some_list he
    have z2 : ((mask.size : Int) == 0) = false := by rw [beq_eq_false_iff_ne]; omega
    have hpm : i % mask.size < mask.size := Nat.mod_lt _ (by omega)
    have hb : sparesB mask i = (((mask[i % mask.size]'hpm).toNat : Int) % 2 == 1) := by
      unfold sparesB
      rw [decide_eq_false hm, nats_at mask _ hpm, Bool.false_or, Bool.eq_iff_iff]
      simp
      omega
    rw [hb]
    clear he hb hm
    go_enter Try.func25, Try.ntmps25
    go_wp2
    go_ret
    exact ⟨rfl, rfl⟩
end Go.Proofs.Ytfdldjhndfohhaa
