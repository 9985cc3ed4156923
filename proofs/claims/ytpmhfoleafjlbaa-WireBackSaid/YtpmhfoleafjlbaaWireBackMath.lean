/-
  Plain mathematics of chapter 5's law WireBack: what was put without a fault is read back, thing by thing. No program, no conditions but those typed.
-/
import Derived.Test.YtpmhfoleafjlbaaWirePutAll
namespace WireMath
theorem put_ext {p q : Put} {x : Thing} (h : put p x = q) (hq : q.bad = none) : p.bad = none ∧ ∃ b, bytes x = some b ∧ q.out = p.out ++ b := by
  subst h
  unfold put at hq ⊢
  cases hb : p.bad with
  | some z => rw [hb] at hq; simp only at hq; rw [hb] at hq; cases hq
  | none =>
    rw [hb] at hq
    simp only at hq ⊢
    cases hx : bytes x with
    | none => rw [hx] at hq; cases hq
    | some b =>
      rw [hx] at hq
      simp only at hq ⊢
      split at hq
      · cases hq
      · rename_i h
        rw [if_neg h]
        exact ⟨trivial, b, rfl, rfl⟩
theorem fold_ext : ∀ (l : List Thing) (p : Put), (l.foldl put p).bad = none → p.bad = none ∧ ∃ r, (l.foldl put p).out = p.out ++ r
  | [], p, h => ⟨h, [], by simp⟩
  | x :: l, p, h => by
    rw [List.foldl_cons] at h ⊢
    obtain ⟨h1, r, h2⟩ := fold_ext l (put p x) h
    obtain ⟨h3, b, _, h4⟩ := put_ext rfl h1
    exact ⟨h3, b ++ r, by rw [h2, h4, List.append_assoc]⟩
/-- Where the first i things end. -/
def endAt (l : List Thing) (i : Nat) : Nat := (written (l.take i)).out.length
theorem written_step {l : List Thing} {i : Nat} {x : Thing} (h : l[i]? = some x) : written (l.take (i + 1)) = put (written (l.take i)) x := by
  unfold written
  rw [List.take_add_one, h]
  simp
theorem back_step {l : List Thing} {i : Nat} {x : Thing} (hb : (written l).bad = none) (h : l[i]? = some x) :
    ∃ b r, bytes x = some b ∧ (written l).out.drop (endAt l i) = b ++ r ∧ endAt l (i + 1) = endAt l i + b.length ∧ endAt l i + b.length ≤ (written l).out.length := by
  have e : written l = (l.drop (i + 1)).foldl put (written (l.take (i + 1))) := by
    unfold written
    rw [← List.foldl_append, List.take_append_drop]
  rw [e] at hb ⊢
  obtain ⟨h1, r, h2⟩ := fold_ext _ _ hb
  obtain ⟨_, b, hx, h4⟩ := put_ext (written_step h).symm h1
  refine ⟨b, r, hx, ?_, ?_, ?_⟩
  · rw [h2, h4]
    unfold endAt
    rw [List.append_assoc, List.drop_left]
  · unfold endAt
    rw [h4, List.length_append]
  · rw [h2, h4]
    unfold endAt
    simp only [List.length_append]
    omega
theorem endAt_zero (l : List Thing) : endAt l 0 = 0 := rfl
theorem endAt_all {l : List Thing} {i : Nat} (h : i = l.length) : endAt l i = (written l).out.length := by
  unfold endAt
  rw [h, List.take_length]
theorem back_num {l : List Thing} {i : Nat} {x : Thing} (hb : (written l).bad = none) (hl : ∀ b ∈ (written l).out, b < 256) (h : l[i]? = some x) (hk : x.k = 0) :
    0 ≤ x.n ∧ readNum (written l).out ⟨endAt l i, none⟩ 4611686018427387903 = (x.n.toNat, ⟨endAt l (i + 1), none⟩) := by
  obtain ⟨b, r, h1, h2, h3, h4⟩ := back_step hb h
  have hm : 0 ≤ x.n ∧ x.n ≤ top := by
    unfold bytes at h1
    rw [hk, if_neg (by decide), if_neg (by decide), if_neg (by decide)] at h1
    split at h1
    · assumption
    · cases h1
  rw [bytes_k0 hk hm.1 hm.2] at h1
  obtain rfl := Option.some.inj h1
  rw [h3]
  refine ⟨hm.1, (good_num _ hl 4611686018427387903).back _ _ r (by omega) ⟨?_, ?_⟩ h2⟩ <;> (unfold top at *; omega)
theorem back_text {l : List Thing} {i : Nat} {x : Thing} (hb : (written l).bad = none) (hl : ∀ b ∈ (written l).out, b < 256) (ho : (written l).out.length ≤ 65536) (h : l[i]? = some x) (hk : x.k = 1) :
    readText (written l).out ⟨endAt l i, none⟩ 65536 = (x.s, ⟨endAt l (i + 1), none⟩) := by
  obtain ⟨b, r, h1, h2, h3, h4⟩ := back_step hb h
  rw [bytes_k1 hk] at h1
  obtain rfl := Option.some.inj h1
  rw [h3]
  have : x.s.length ≤ 65536 := by
    unfold textBytes at h4
    rw [List.length_append] at h4
    omega
  refine (good_text _ hl 65536).back _ _ r (by omega) ⟨?_, ?_⟩ h2 <;> (try unfold top) <;> omega
theorem back_flag {l : List Thing} {i : Nat} {x : Thing} (hb : (written l).bad = none) (hl : ∀ b ∈ (written l).out, b < 256) (h : l[i]? = some x) (hk : x.k = 2) :
    readFlag (written l).out ⟨endAt l i, none⟩ = (x.b, ⟨endAt l (i + 1), none⟩) := by
  obtain ⟨b, r, h1, h2, h3, h4⟩ := back_step hb h
  rw [bytes_k2 hk] at h1
  obtain rfl := Option.some.inj h1
  rw [h3]
  exact (good_flag _ hl).back _ _ r (by omega) trivial h2
theorem back_vec {l : List Thing} {i : Nat} {x : Thing} (hb : (written l).bad = none) (hl : ∀ b ∈ (written l).out, b < 256) (h : l[i]? = some x) (hk : x.k = 3) (hv : ∀ z ∈ x.v, z ≤ 1099511627776) :
    readVec (written l).out ⟨endAt l i, none⟩ = (x.v.map Int.toNat, ⟨endAt l (i + 1), none⟩) ∧ (x.v.map Int.toNat).map Int.ofNat = x.v := by
  obtain ⟨b, r, h1, h2, h3, h4⟩ := back_step hb h
  have ht : trimmed x.v top = true := by
    unfold bytes at h1
    rw [hk, if_neg (by decide), if_neg (by decide), if_pos rfl] at h1
    split at h1
    · assumption
    · cases h1
  rw [bytes_k3 hk ht] at h1
  obtain rfl := Option.some.inj h1
  have hp : ∀ z ∈ x.v, 0 ≤ z := by
    unfold trimmed at ht
    simp only [Bool.and_eq_true, decide_eq_true_eq, List.all_eq_true] at ht
    exact fun z hz => (ht.1.2 z hz).1
  have hm : (x.v.map Int.toNat).map Int.ofNat = x.v := by
    rw [List.map_map]
    conv => rhs; rw [← List.map_id x.v]
    exact List.map_congr_left fun z hz => Int.toNat_of_nonneg (hp z hz)
  have hB : trimmed ((x.v.map Int.toNat).map Int.ofNat) big = true := by
    rw [hm]
    unfold trimmed at ht ⊢
    simp only [Bool.and_eq_true, decide_eq_true_eq, List.all_eq_true] at ht ⊢
    exact ⟨⟨ht.1.1, fun z hz => ⟨hp z hz, by have := hv z hz; unfold big; omega⟩⟩, ht.2⟩
  have hbb : vecBytes x.v = vecBytesN (x.v.map Int.toNat) := by
    unfold vecBytes vecBytesN countsBytes
    rw [List.length_map, List.flatMap_map]
  rw [h3]
  rw [hbb] at h2 h4 ⊢
  exact ⟨(good_vec _ hl).back _ _ r (by omega) hB h2, hm⟩
end WireMath
