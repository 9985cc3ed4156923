/-
  Texts as lists of numbers below 256, and back. No conditions but those typed.
-/
namespace TextNat
/-- A text's bytes. -/
def nats (s : ByteArray) : List Nat := s.data.toList.map UInt8.toNat
/-- The text of these bytes. -/
def txt (l : List Nat) : ByteArray := ⟨(l.map UInt8.ofNat).toArray⟩
theorem nats_len (s : ByteArray) : (nats s).length = s.size := by rw [nats, List.length_map]; exact Array.length_toList
theorem nats_lt (s : ByteArray) : ∀ b ∈ nats s, b < 256 := by
  intro b hb
  obtain ⟨x, _, rfl⟩ := List.mem_map.1 hb
  exact UInt8.toNat_lt x
theorem txt_len (l : List Nat) : (txt l).size = l.length := by simp [txt, ByteArray.size]
theorem txt_nats (s : ByteArray) : txt (nats s) = s := by
  obtain ⟨a⟩ := s
  simp only [txt, nats, List.map_map]
  congr 1
  have : (UInt8.ofNat ∘ UInt8.toNat) = id := by funext x; simp
  rw [this, List.map_id]
theorem nats_txt (l : List Nat) (h : ∀ b ∈ l, b < 256) : nats (txt l) = l := by
  simp only [txt, nats, List.map_map]
  have : ∀ l : List Nat, (∀ b ∈ l, b < 256) → l.map (UInt8.toNat ∘ UInt8.ofNat) = l := by
    intro l
    induction l with
    | nil => intro _; rfl
    | cons a r ih =>
      intro h
      have ha := h a (by simp)
      rw [List.map_cons, ih (fun b hb => h b (by simp [hb]))]
      congr 1
      show (UInt8.ofNat a).toNat = a
      rw [UInt8.toNat_ofNat']
      omega
  exact this l h
theorem nats_inj {s t : ByteArray} (h : nats s = nats t) : s = t := by rw [← txt_nats s, ← txt_nats t, h]
theorem nats_append (s t : ByteArray) : nats (s ++ t) = nats s ++ nats t := by
  have e : (s ++ t).data = s.data ++ t.data := by simp
  simp [nats, e]
theorem txt_append (a b : List Nat) : txt a ++ txt b = txt (a ++ b) := by
  have e : (txt a ++ txt b).data = (txt a).data ++ (txt b).data := by simp
  have h : ∀ x y : ByteArray, x.data = y.data → x = y := fun x y h => by cases x; cases y; simpa using h
  apply h
  rw [e]
  simp [txt]
theorem nats_at (s : ByteArray) (i : Nat) (h : i < s.size) : (nats s)[i]? = some (s[i].toNat) := by
  rw [nats, List.getElem?_map]
  have e : s.data.toList[i]? = some s[i] := by
    rw [Array.getElem?_toList]
    exact Array.getElem?_eq_getElem h
  rw [e]
  rfl
end TextNat
