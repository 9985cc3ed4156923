/-
  Plain mathematics of chapter 5: what a right write's things, put one behind the other, come to. No program, no conditions but those typed.
-/
import Derived.Test.YtpmhfoleafjlbaaDoorWirePut
namespace WireMath

theorem putN_num {p : Put} {z : Int} (h : p.bad = none) (h0 : 0 ≤ z) (h1 : z ≤ top) (hl : p.out.length + (num z.toNat).length ≤ 65536) : putN p [z] [] = ⟨p.out ++ num z.toNat, none⟩ := by
  have e : numsBytes [z] ++ [] = num z.toNat := by simp [numsBytes]
  have := putN_ok (p := p) h (zs := [z]) (s := []) (by simp [mayNum, h0, h1]) (by rw [e]; omega)
  rw [e] at this
  exact this
theorem mayNum_nat (n : Nat) (h : n ≤ top) : mayNum (n : Int) = true := by unfold mayNum; rw [decide_eq_true (Int.natCast_nonneg n), decide_eq_true (Int.ofNat_le.2 h)]; rfl
theorem putN_text {p : Put} {s : List Nat} (h : p.bad = none) (h1 : s.length ≤ 200000) (hl : p.out.length + (textBytes s).length ≤ 65536) : putN p [(s.length : Int)] s = ⟨p.out ++ textBytes s, none⟩ := by
  have e : numsBytes [(s.length : Int)] ++ s = textBytes s := by simp [numsBytes, textBytes]
  have := putN_ok (p := p) h (zs := [(s.length : Int)]) (s := s) (by rw [List.all_cons, mayNum_nat _ (by unfold top; omega)]; rfl) (by rw [e]; omega)
  rw [e] at this
  exact this
theorem putN_flag {p : Put} {b : Bool} (h : p.bad = none) (hl : p.out.length + (flagBytes b).length ≤ 65536) : putN p [if b then 1 else 0] [] = ⟨p.out ++ flagBytes b, none⟩ := by
  cases b
  · exact putN_num h (by decide) (by decide) hl
  · exact putN_num h (by decide) (by decide) hl
theorem numsBytes_counts : ∀ v : List Nat, numsBytes (v.map Int.ofNat) = countsBytes v
  | [] => rfl
  | x :: r => by
    show num (Int.ofNat x).toNat ++ numsBytes (r.map Int.ofNat) = num x ++ countsBytes r
    rw [numsBytes_counts r]
    rfl
theorem putN_vec {p : Put} {v : List Nat} (h : p.bad = none) (hv : trimmed (v.map Int.ofNat) big = true) (hl : p.out.length + (vecBytesN v).length ≤ 65536) : putN p (((v.map Int.ofNat).length : Int) :: v.map Int.ofNat) [] = ⟨p.out ++ vecBytesN v, none⟩ := by
  have e : numsBytes (((v.map Int.ofNat).length : Int) :: v.map Int.ofNat) ++ [] = vecBytesN v := by
    rw [List.append_nil]
    show num (((v.map Int.ofNat).length : Int)).toNat ++ numsBytes (v.map Int.ofNat) = _
    rw [numsBytes_counts, List.length_map]
    rfl
  obtain ⟨h1, h2⟩ := trimmed_counts hv
  have hm : ((((v.map Int.ofNat).length : Int) :: v.map Int.ofNat)).all mayNum = true := by
    rw [List.all_eq_true]
    intro z hz
    rcases List.mem_cons.1 hz with rfl | hz
    · rw [List.length_map]; exact mayNum_nat _ (by unfold top; omega)
    · obtain ⟨y, hy, rfl⟩ := List.mem_map.1 hz
      have := h2 y hy
      unfold big at this
      exact mayNum_nat y (by unfold top; omega)
  have := putN_ok (p := p) h (zs := ((v.map Int.ofNat).length : Int) :: v.map Int.ofNat) (s := []) hm (by rw [e]; omega)
  rw [e] at this
  exact this
theorem countsBytes_len (v : List Nat) : (countsBytes v).length ≤ 9 * v.length := by
  rw [← numsBytes_counts]
  have := numsBytes_len (v.map Int.ofNat)
  rwa [List.length_map] at this
theorem vecBytesN_len {v : List Nat} (h : v.length ≤ 16) : (vecBytesN v).length ≤ 200 := by
  have h1 := countsBytes_len v
  have h2 := num_len v.length
  unfold vecBytesN
  rw [List.length_append]
  omega
theorem textBytes_len {s : List Nat} {k : Nat} (h : s.length ≤ k) : (textBytes s).length ≤ k + 9 := by
  have h2 := num_len s.length
  unfold textBytes
  rw [List.length_append]
  omega
theorem flagBytes_len (b : Bool) : (flagBytes b).length ≤ 9 := num_len _
theorem num_bytes {n : Nat} (h : n ≤ big) : ∀ b ∈ num n, b < 256 := num_lt n (by unfold big at h; omega)
theorem mem_app {a b : List Nat} (ha : ∀ x ∈ a, x < 256) (hb : ∀ x ∈ b, x < 256) : ∀ x ∈ a ++ b, x < 256 := fun x hx => by
  rcases List.mem_append.1 hx with h | h
  · exact ha x h
  · exact hb x h
theorem text_bytes {s : List Nat} (h : s.length ≤ 1000) (hs : ∀ x ∈ s, x < 256) : ∀ x ∈ textBytes s, x < 256 := mem_app (num_lt _ (by omega)) hs
theorem vec_bytes {v : List Nat} (h : trimmed (v.map Int.ofNat) big = true) : ∀ x ∈ vecBytesN v, x < 256 := by
  obtain ⟨h1, h2⟩ := trimmed_counts h
  refine mem_app (num_lt _ (by omega)) fun x hx => ?_
  obtain ⟨y, hy, hx⟩ := List.mem_flatMap.1 hx
  exact num_bytes (h2 y hy) x hx
/-- A right write's bytes are bytes, and few. -/
theorem write_small {v : WriteT} (h : rightWriteT v = true) : (writeBytesT v).length ≤ 1000 := by
  unfold rightWriteT at h
  simp only [Bool.and_eq_true, decide_eq_true_eq] at h
  obtain ⟨⟨⟨⟨⟨⟨⟨⟨⟨⟨⟨⟨_, _⟩, _⟩, _⟩, _⟩, _⟩, h7⟩, _⟩, h9⟩, h10⟩, h11⟩, _⟩, _⟩ := h
  have k1 := num_len v.1
  have k2 := num_len v.2.1
  have k3 := num_len v.2.2.1
  have k4 := vecBytesN_len (trimmed_counts h7).1
  have k5 := textBytes_len h9
  have k6 := textBytes_len h10
  have k7 := flagBytes_len v.2.2.2.2.2.2.1
  have k8 := textBytes_len h11
  have k9 := num_len v.2.2.2.2.2.2.2.2
  unfold writeBytesT
  simp only [List.length_append]
  omega
theorem claims_small {v : ClaimsT} (h : rightClaimsT v = true) : (claimsBytesT v).length ≤ 1000 := by
  unfold rightClaimsT at h
  simp only [Bool.and_eq_true, decide_eq_true_eq] at h
  obtain ⟨⟨⟨⟨⟨⟨⟨_, h2⟩, _⟩, h4⟩, _⟩, _⟩, _⟩, h8⟩ := h
  have k1 := textBytes_len h2
  have k2 := textBytes_len h4
  have k3 := num_len v.2.2.1
  have k4 := num_len v.2.2.2.1
  have k5 := num_len v.2.2.2.2.1
  have k6 := vecBytesN_len (trimmed_counts h8).1
  unfold claimsBytesT
  simp only [List.length_append]
  omega
end WireMath
