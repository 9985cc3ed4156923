/-
  Texts of one claim, merged.
  TextLaws: Plain mathematics of chapter 4: letters come back as the bytes, and bytes as the letters; letters are cookie octets; letters of whole threes join. No program, no conditions but those typed.
  TextAwake: What chapter 4's Enc, Dec, Octets, Token promise, said as contracts; and, from these, the contract of the laws' awake: it answers true; old memory is as it was. The conditions: the four contracts.
-/
import Derived.Test.YtlgofepmdjlpgaaDoorPart12
import Derived.Test.YtlgofepmdjlpgaaDoorPart04
import Derived.Test.YtlgofepmdjlpgaaDoorPart02
import Derived.KernelRfl
namespace TextMath

theorem num6_bit {g : List Nat} (hl : g.length = 6) (hb : ∀ b ∈ g, b < 2) (q z : Nat) (hz : g[q]? = some z) : num g / 2 ^ (5 - q) % 2 = z := by
  match g, hl with
  | [a, b, c, d, e, f], _ =>
    have ha := hb a (by simp)
    have hb' := hb b (by simp)
    have hc := hb c (by simp)
    have hd := hb d (by simp)
    have he := hb e (by simp)
    have hf := hb f (by simp)
    have hq : q < 6 := (List.getElem?_eq_some_iff.1 hz).1
    have hn : num [a, b, c, d, e, f] = ((((a * 2 + b) * 2 + c) * 2 + d) * 2 + e) * 2 + f := by simp [num]
    rw [hn]
    have : q = 0 ∨ q = 1 ∨ q = 2 ∨ q = 3 ∨ q = 4 ∨ q = 5 := by omega
    rcases this with rfl | rfl | rfl | rfl | rfl | rfl <;> simp at hz <;> subst hz <;> simp <;> omega
theorem num8_bit {g : List Nat} (hl : g.length = 8) (hb : ∀ b ∈ g, b < 2) (q z : Nat) (hz : g[q]? = some z) : num g / 2 ^ (7 - q) % 2 = z := by
  match g, hl with
  | [a, b, c, d, e, f, h, i], _ =>
    have ha := hb a (by simp)
    have hb' := hb b (by simp)
    have hc := hb c (by simp)
    have hd := hb d (by simp)
    have he := hb e (by simp)
    have hf := hb f (by simp)
    have hh := hb h (by simp)
    have hi := hb i (by simp)
    have hq : q < 8 := (List.getElem?_eq_some_iff.1 hz).1
    have hn : num [a, b, c, d, e, f, h, i] = ((((((a * 2 + b) * 2 + c) * 2 + d) * 2 + e) * 2 + f) * 2 + h) * 2 + i := by simp [num]
    rw [hn]
    have : q = 0 ∨ q = 1 ∨ q = 2 ∨ q = 3 ∨ q = 4 ∨ q = 5 ∨ q = 6 ∨ q = 7 := by omega
    rcases this with rfl | rfl | rfl | rfl | rfl | rfl | rfl | rfl <;> simp at hz <;> subst hz <;> simp <;> omega
theorem num_bits6 (n : Nat) (h : n < 64) : num (bits6 n) = n := by
  simp only [bits6, num, List.foldl_cons, List.foldl_nil]
  omega
theorem num_bits8 (n : Nat) (h : n < 256) : num (bits8 n) = n := by
  simp only [bits8, num, List.foldl_cons, List.foldl_nil]
  omega
/-- A group of the rows that lie one behind the other is a row. -/
theorem group_flat {f : Nat → List Nat} {k : Nat} (hf : ∀ z, (f z).length = k) (l X : List Nat) (j z : Nat) (hz : l[j]? = some z) : group (l.flatMap f ++ X) k j = f z := by
  have hj := (List.getElem?_eq_some_iff.1 hz).1
  have hkj : k * j + k ≤ k * l.length := by rw [← Nat.mul_succ]; exact Nat.mul_le_mul_left k hj
  apply List.ext_getElem?
  intro q
  by_cases hq : q < k
  · rw [group_at _ _ _ _ hq, List.getElem?_append_left (by rw [flat_len hf]; omega), flat_at hf l j q hq, hz, Option.bind_some]
  · rw [List.getElem?_eq_none (by rw [group_len _ _ _ (by rw [List.length_append, flat_len hf]; omega)]; omega), List.getElem?_eq_none (by rw [hf]; omega)]

/-- The bits of the letters are the bytes' own, filled up. -/
theorem decBits_enc (l : List Nat) : decBits (enc l) = padTo6 (l.flatMap bits8) := by
  obtain ⟨M, hM⟩ : ∃ M, M = padTo6 (l.flatMap bits8) := ⟨_, rfl⟩
  have hMl : M.length % 6 = 0 := by rw [hM]; exact padTo6_len _
  have hMlt : ∀ b ∈ M, b < 2 := by rw [hM]; exact padTo6_lt (flat_lt bits8_lt l)
  have hEl : (enc l).length = M.length / 6 := by rw [enc_len, hM]
  rw [← hM]
  apply List.ext_getElem?
  intro t
  by_cases ht : t < M.length
  · obtain ⟨j, hj⟩ : ∃ j, j = t / 6 := ⟨_, rfl⟩
    obtain ⟨q, hq⟩ : ∃ q, q = t % 6 := ⟨_, rfl⟩
    have htj : t = 6 * j + q := by omega
    have hq6 : q < 6 := by omega
    have hE := enc_at l j (by rw [← hM]; omega)
    rw [← hM] at hE
    have hg : (group M 6 j).length = 6 := group_len M 6 j (by omega)
    have hgl := group_lt hMlt 6 j
    have hn64 : num (group M 6 j) < 64 := by have := num_lt hgl; rw [hg] at this; exact this
    obtain ⟨x, hz⟩ : ∃ x, M[t]? = some x := ⟨_, List.getElem?_eq_getElem ht⟩
    have hb := num6_bit hg hgl q x (by rw [group_at M 6 j q hq6, ← htj, hz])
    rw [hz, htj, decBits_at (enc l) j q _ hq6 hE, number_of hn64 rfl, hb]
  · rw [List.getElem?_eq_none (by rw [decBits_len, hEl]; omega), List.getElem?_eq_none (by omega)]
theorem enc_letters (l : List Nat) : ∀ j y : Nat, (enc l)[j]? = some y → number y < 64 := by
  intro j y hy
  obtain ⟨i, _, rfl⟩ := List.mem_map.1 (List.mem_of_getElem? hy)
  have h := num_lt (group_lt (padTo6_lt (flat_lt bits8_lt l)) 6 i)
  have h2 : (group (padTo6 (l.flatMap bits8)) 6 i).length ≤ 6 := by unfold group; rw [List.length_take]; omega
  have h3 : 2 ^ (group (padTo6 (l.flatMap bits8)) 6 i).length ≤ 2 ^ 6 := Nat.pow_le_pow_right (by decide) h2
  rw [number_of (n := num (group (padTo6 (l.flatMap bits8)) 6 i)) (by omega) rfl]
  omega
theorem enc_length (l : List Nat) : (enc l).length = (8 * l.length + 5) / 6 := by
  rw [enc_len]
  simp only [padTo6, List.length_append, List.length_replicate, flat_len bits8_len]
  omega
/-- What the letters stand for. -/
theorem dec_enc (l : List Nat) (hl : ∀ b ∈ l, b < 256) : fault (enc l) = none ∧ decBytes (enc l) = l := by
  have hE := enc_length l
  have hn : 6 * (enc l).length / 8 = l.length := by omega
  refine ⟨fault_none (enc_letters l) (by omega) (fun t z h1 h2 => ?_), ?_⟩
  · rw [decBits_enc] at h2
    unfold padTo6 at h2
    rw [List.getElem?_append_right (by rw [flat_len bits8_len]; omega)] at h2
    exact (List.mem_replicate.1 (List.mem_of_getElem? h2)).2
  · apply List.ext_getElem?
    intro j
    by_cases hj : j < l.length
    · have hz : l[j]? = some l[j] := List.getElem?_eq_getElem hj
      rw [decBytes_at (enc l) j (by omega), decBits_enc, hz]
      unfold padTo6
      rw [group_flat bits8_len l _ j l[j] hz, num_bits8 _ (hl _ (List.getElem_mem hj))]
    · rw [List.getElem?_eq_none (by rw [decBytes_len]; omega), List.getElem?_eq_none (by omega)]

/-- What fault says where it finds none. -/
theorem fault_says {l : List Nat} (h : fault l = none) : (∀ j y : Nat, l[j]? = some y → number y < 64) ∧ l.length % 4 ≠ 1 ∧ ∀ t z : Nat, 8 * (6 * l.length / 8) ≤ t → (decBits l)[t]? = some z → z = 0 := by
  unfold fault at h
  cases hq : l.findIdx? (fun c => number c == 64) with
  | some i => rw [hq] at h; cases h
  | none =>
    rw [hq] at h
    simp only at h
    rw [List.findIdx?_eq_none_iff] at hq
    by_cases h4 : l.length % 4 = 1
    · rw [if_pos h4] at h; cases h
    · rw [if_neg h4] at h
      cases ha : ((decBits l).drop (8 * ((decBits l).length / 8))).any (· != 0)
      · refine ⟨fun j y hy => ?_, h4, fun t z h1 h2 => ?_⟩
        · have h5 := hq y (List.mem_of_getElem? hy)
          have h6 := number_le y
          simp at h5
          omega
        · rw [List.any_eq_false] at ha
          have h7 := ha z (List.mem_of_getElem? (i := t - 8 * ((decBits l).length / 8)) (by
            rw [List.getElem?_drop, decBits_len, show 8 * (6 * l.length / 8) + (t - 8 * (6 * l.length / 8)) = t by omega]
            exact h2))
          simpa using h7
      · rw [ha, if_pos rfl] at h; cases h
theorem enc_dec (l : List Nat) (h : fault l = none) : enc (decBytes l) = l := by
  obtain ⟨h1, h2, h3⟩ := fault_says h
  have hB : ∀ b ∈ decBits l, b < 2 := decBits_lt l
  have hBl := decBits_len l
  have hm := decBytes_len l
  have hbits : (decBytes l).flatMap bits8 = (decBits l).take (8 * (6 * l.length / 8)) := by
    apply List.ext_getElem?
    intro t
    by_cases ht : t < 8 * (6 * l.length / 8)
    · obtain ⟨j, hj⟩ : ∃ j, j = t / 8 := ⟨_, rfl⟩
      obtain ⟨q, hq⟩ : ∃ q, q = t % 8 := ⟨_, rfl⟩
      have htj : t = 8 * j + q := by omega
      have hq8 : q < 8 := by omega
      have hjm : j < 6 * l.length / 8 := by omega
      have htl : t < (decBits l).length := by omega
      have hg : (group (decBits l) 8 j).length = 8 := group_len _ 8 j (by omega)
      obtain ⟨x, hx⟩ : ∃ x, (decBits l)[t]? = some x := ⟨_, List.getElem?_eq_getElem htl⟩
      have hb := num8_bit hg (group_lt hB 8 j) q x (by rw [group_at _ 8 j q hq8, ← htj, hx])
      rw [List.getElem?_take, if_pos ht, hx, htj, flat_at bits8_len _ j q hq8, decBytes_at l j hjm, Option.bind_some, bits8_at _ q hq8, hb]
    · rw [List.getElem?_eq_none (by rw [flat_len bits8_len, hm]; omega), List.getElem?_eq_none (by rw [List.length_take]; omega)]
  have hpad : padTo6 ((decBytes l).flatMap bits8) = decBits l := by
    unfold padTo6
    rw [flat_len bits8_len, hm, hbits]
    have hpd : 8 * (6 * l.length / 8) + (6 - 8 * (6 * l.length / 8) % 6) % 6 = 6 * l.length := by
      obtain ⟨f, hf⟩ : ∃ f, f = l.length / 4 := ⟨_, rfl⟩
      have : l.length = 4 * f ∨ l.length = 4 * f + 2 ∨ l.length = 4 * f + 3 := by omega
      rcases this with e | e | e
      · rw [e, show 6 * (4 * f) / 8 = 3 * f by omega]; omega
      · rw [e, show 6 * (4 * f + 2) / 8 = 3 * f + 1 by omega]; omega
      · rw [e, show 6 * (4 * f + 3) / 8 = 3 * f + 2 by omega]; omega
    have htk : ((decBits l).take (8 * (6 * l.length / 8))).length = 8 * (6 * l.length / 8) := by
      rw [List.length_take, hBl]
      exact Nat.min_eq_left (by omega)
    apply List.ext_getElem?
    intro t
    by_cases ht : t < 8 * (6 * l.length / 8)
    · rw [List.getElem?_append_left (by rw [htk]; exact ht), List.getElem?_take, if_pos ht]
    · by_cases htl : t < 6 * l.length
      · have hz : (decBits l)[t]? = some (decBits l)[t] := List.getElem?_eq_getElem (by omega)
        rw [List.getElem?_append_right (by rw [htk]; omega), hz, h3 t _ (by omega) hz, List.getElem?_replicate, if_pos (by rw [htk]; omega)]
      · rw [List.getElem?_eq_none (by rw [List.length_append, htk, List.length_replicate]; omega), List.getElem?_eq_none (by omega)]
  apply List.ext_getElem?
  intro j
  by_cases hj : j < l.length
  · have hz : l[j]? = some l[j] := List.getElem?_eq_getElem hj
    have hn := h1 j _ hz
    rw [enc_at _ j (by rw [hpad]; omega), hpad, hz]
    have hg := group_flat (f := fun c => bits6 (number c)) (fun z => bits6_len (number z)) l [] j l[j] hz
    rw [List.append_nil] at hg
    show some (letter (num (group (l.flatMap fun c => bits6 (number c)) 6 j))) = _
    rw [hg, num_bits6 _ hn, letter_number hn]
  · rw [List.getElem?_eq_none (by rw [enc_len, hpad]; omega), List.getElem?_eq_none (by omega)]

theorem letter_octet_table : ((List.range 64).all fun n => octet (letter n)) = true := by decide
theorem letter_octet (n : Nat) (h : n < 64) : octet (letter n) = true := by
  have := letter_octet_table
  rw [List.all_eq_true] at this
  exact this n (List.mem_range.2 h)
theorem enc_octets (l : List Nat) : (enc l).all octet = true := by
  rw [List.all_eq_true]
  intro y hy
  obtain ⟨j, hj, e⟩ := List.getElem_of_mem hy
  have h := enc_letters l j y (by rw [List.getElem?_eq_getElem hj, e])
  rw [← letter_number h]
  exact letter_octet _ h

theorem enc_join (a b : List Nat) (h : a.length % 3 = 0) : enc (a ++ b) = enc a ++ enc b := by
  obtain ⟨k, hk⟩ : ∃ k, a.length = 3 * k := ⟨a.length / 3, by omega⟩
  obtain ⟨A, hA⟩ : ∃ A, A = a.flatMap bits8 := ⟨_, rfl⟩
  obtain ⟨B, hB⟩ : ∃ B, B = b.flatMap bits8 := ⟨_, rfl⟩
  have hAl : A.length = 24 * k := by rw [hA, flat_len bits8_len, hk]; omega
  have hpa : padTo6 A = A := by
    unfold padTo6
    rw [hAl, show (6 - 24 * k % 6) % 6 = 0 by omega]
    simp
  have hpab : padTo6 (A ++ B) = A ++ padTo6 B := by
    unfold padTo6
    rw [List.length_append, hAl, show (6 - (24 * k + B.length) % 6) % 6 = (6 - B.length % 6) % 6 by omega, List.append_assoc]
  have hfl : (a ++ b).flatMap bits8 = A ++ B := by rw [List.flatMap_append, hA, hB]
  have hEa := enc_len a
  have hEb := enc_len b
  have hEab := enc_len (a ++ b)
  rw [← hA, hpa, hAl] at hEa
  rw [← hB] at hEb
  rw [hfl, hpab, List.length_append, hAl] at hEab
  have hp6 := padTo6_len B
  apply List.ext_getElem?
  intro j
  by_cases hj : j < 4 * k
  · rw [List.getElem?_append_left (by omega), enc_at (a ++ b) j (by rw [hfl, hpab, List.length_append, hAl]; omega), enc_at a j (by rw [← hA, hpa, hAl]; omega), hfl, hpab, ← hA, hpa]
    congr 3
    unfold group
    rw [List.drop_append_of_le_length (by omega), List.take_append_of_le_length (by rw [List.length_drop]; omega)]
  · rw [List.getElem?_append_right (by omega), hEa]
    by_cases hj2 : 6 * (j - 4 * k) + 6 ≤ (padTo6 B).length
    · rw [enc_at (a ++ b) j (by rw [hfl, hpab, List.length_append, hAl]; omega), show 24 * k / 6 = 4 * k by omega, enc_at b (j - 4 * k) (by rw [← hB]; exact hj2), hfl, hpab, ← hB]
      congr 3
      unfold group
      rw [List.drop_append, List.drop_of_length_le (by omega), List.nil_append, hAl, show 6 * j - 24 * k = 6 * (j - 4 * k) by omega]
    · rw [List.getElem?_eq_none (by omega), List.getElem?_eq_none (by omega)]
end TextMath
namespace Go.Proofs.YtlgofepmdjlpgaaDoor
open Go.RowKit TextNat

/-- What Dec answers. -/
def Decoded (l : List Nat) (e : Ending) (w' : World) : Prop :=
  match TextMath.fault l with
  | none => e = .returned (.tuple #[.string (txt (TextMath.decBytes l)), .nilIface])
  | some n => ∃ v, e = .returned (.tuple #[.string ByteArray.empty, v]) ∧ Chain w'.heap.size w' [(⟨#[116, 101, 120, 116]⟩, (n : Int))] (.iface 32 (.int .i64 2)) v
def OctetsOk : Prop := ∀ (s : ByteArray) (w : World), s.size ≤ 20000 → Calls Tryd.prog 30 #[.string s] w fun e w' => e = .returned (.bool ((nats s).all TextMath.octet)) ∧ Below w.heap.size w w'
def TokenOk : Prop := ∀ (s : ByteArray) (w : World), s.size ≤ 20000 → Calls Tryd.prog 29 #[.string s] w fun e w' => e = .returned (.bool (TextMath.token (nats s))) ∧ Below w.heap.size w w'

theorem enc_f : txt (TextMath.enc (nats ⟨#[102]⟩)) = ⟨#[90, 103]⟩ := by kernel_rfl
theorem fault_fo : TextMath.fault (nats ⟨#[90, 109, 56]⟩) = none := by kernel_rfl
theorem dec_fo : txt (TextMath.decBytes (nats ⟨#[90, 109, 56]⟩)) = ⟨#[102, 111]⟩ := by kernel_rfl
theorem octets_no : (nats ⟨#[59]⟩).all TextMath.octet = false := by kernel_rfl
theorem token_a : TextMath.token (nats ⟨#[97]⟩) = true := by kernel_rfl

end Go.Proofs.YtlgofepmdjlpgaaDoor
