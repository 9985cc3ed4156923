/-
  Plain mathematics of BlockKeeps: what a crash leaves. No program, no conditions but those typed.
-/
import Derived.Test.YtfdldjhndfohhaaDoorBlockMath
namespace BlockMath
open TextNat
theorem nats_extract (s : ByteArray) (n : Nat) : nats (s.extract 0 n) = (nats s).take n := by
  unfold nats
  rw [← List.map_take]
  congr 1
  simp [ByteArray.data_extract]
theorem left_or (mask : ByteArray) (i c : Nat) : left mask i c = c ∨ left mask i c = 0 := by
  unfold left
  split
  · exact Or.inl rfl
  · split
    · exact Or.inr rfl
    · exact Or.inl rfl
theorem kept_at {l mask : ByteArray} {n i c : Nat} (hn : i < n) (hc : (nats l)[i]? = some c) : (kept l mask n)[i]? = some (left mask i c) := by
  unfold kept
  rw [List.getElem?_map, List.getElem?_zipIdx, List.getElem?_take, if_pos hn, hc]
  simp
theorem kept_lt (l mask : ByteArray) (n : Nat) : ∀ b ∈ kept l mask n, b < 256 := by
  intro b hb
  unfold kept at hb
  obtain ⟨⟨c, i⟩, h1, rfl⟩ := List.mem_map.1 hb
  have h2 : c ∈ nats l := by
    have := List.fst_mem_of_mem_zipIdx h1
    exact List.mem_of_mem_take this
  have h3 := nats_lt l c h2
  rcases left_or mask i c with h | h
  · show left mask i c < 256
    omega
  · show left mask i c < 256
    omega
theorem kept_nil (l : ByteArray) (n : Nat) : kept l ByteArray.empty n = (nats l).take n := by
  unfold kept
  apply List.ext_getElem?
  intro i
  rw [List.getElem?_map, List.getElem?_zipIdx]
  cases h : ((nats l).take n)[i]? with
  | none => simp
  | some c => simp [left]
theorem txt_take (l : ByteArray) (n : Nat) : txt ((nats l).take n) = l.extract 0 n := by
  rw [← nats_extract, txt_nats]
theorem take_left (a b : ByteArray) : (a ++ b).extract 0 a.size = a := ByteArray.extract_append_eq_left rfl
theorem take_right (a b : ByteArray) : (a ++ b).extract a.size (a ++ b).size = b := ByteArray.extract_append_eq_right rfl (by rw [ByteArray.size_append])
/-- The power is on, there is no fuse, and all the room. -/
structure On (d : Dk) : Prop where
  off : d.off = false
  fuse : d.fuse = -1
  room : d.room = 1048576
theorem On.new : On (new 1048576) := ⟨rfl, rfl, rfl⟩
theorem On.append {d : Dk} (h : On d) {s : ByteArray} (hs : (all d).size + s.size ≤ 1048576) : BlockMath.append s d = (0, { d with late := d.late ++ s }) := append_in h.off h.fuse (by rw [h.room]; omega)
theorem On.app {d : Dk} (h : On d) (s : ByteArray) : On { d with late := d.late ++ s } := ⟨h.off, h.fuse, h.room⟩
theorem app_size (d : Dk) (s : ByteArray) : (all { d with late := d.late ++ s }).size = (all d).size + s.size := by
  rw [all_size, all_size]
  show d.done.size + (d.late ++ s).size = _
  rw [ByteArray.size_append]
  omega
theorem On.cut {d : Dk} (h : On d) (n : Int) : On (cut n d).2 ∧ (all (cut n d).2).size ≤ (all d).size := by
  unfold BlockMath.cut
  split
  · exact ⟨h, Nat.le_refl _⟩
  · rw [if_pos (doesB_on h.off h.fuse), doesD_on h.off h.fuse]
    show On (cutD n.toNat d) ∧ _
    unfold cutD
    split
    · refine ⟨⟨h.off, h.fuse, h.room⟩, ?_⟩
      rw [all_size, all_size]
      show (d.done.extract 0 _).size + 0 ≤ _
      rw [ByteArray.size_extract]
      omega
    · refine ⟨⟨h.off, h.fuse, h.room⟩, ?_⟩
      rw [all_size, all_size]
      show d.done.size + (d.late.extract 0 _).size ≤ _
      rw [ByteArray.size_extract]
      omega
theorem On.sync {d : Dk} (h : On d) : BlockMath.sync d = (0, ⟨all d, ByteArray.empty, d.room, d.fuse, d.off⟩) := sync_in h.off h.fuse
theorem On.is {d : Dk} (h : On d) : BlockMath.sync d = (0, ⟨all d, ByteArray.empty, 1048576, -1, false⟩) := by rw [h.sync, h.room, h.fuse, h.off]
/-- A device that is on, with all the room. -/
abbrev dk (v l : ByteArray) : Dk := ⟨v, l, 1048576, -1, false⟩
theorem dk_size (v : ByteArray) : size (dk v ByteArray.empty) = (v.size : Int) := by
  rw [size_on rfl]
  show ((v ++ ByteArray.empty).size : Int) = _
  rw [ba_end]
theorem dk_read (v : ByteArray) : read 0 (v.size : Int) (dk v ByteArray.empty) = (v, 0) := by
  have := read_on (d := dk v ByteArray.empty) rfl
  rw [dk_size] at this
  rw [this]
  show ((v ++ ByteArray.empty, (0 : Int)) : ByteArray × Int) = _
  rw [ba_end]
theorem dk_append {v l : ByteArray} (h : v.size + l.size ≤ 1048576) : append l (dk v ByteArray.empty) = (0, dk v l) := by
  rw [append_in rfl rfl (by rw [← size_on (d := dk v ByteArray.empty) rfl, dk_size]; show _ ≤ (1048576 : Int); omega)]
  show (0, dk v (ByteArray.empty ++ l)) = _
  rw [ba_nil]
/-- What is there behind the crash. -/
def rest (late mask : ByteArray) (k : Int) : ByteArray := txt (kept late mask (k % ((late.size : Int) + 1)).toNat)
theorem rest_le (late mask : ByteArray) (k : Int) : (rest late mask k).size ≤ late.size := by
  have h := stays_le k ⟨ByteArray.empty, late, 0, 0, false⟩
  unfold stays at h
  unfold rest
  rw [txt_len, kept_len _ _ h]
  exact h
theorem rest_at (late mask : ByteArray) (k : Int) {i c : Nat} (hi : i < (rest late mask k).size) (hc : (nats late)[i]? = some c) : ∃ x, (nats (rest late mask k))[i]? = some x ∧ (x = c ∨ x = 0) := by
  have h := stays_le k ⟨ByteArray.empty, late, 0, 0, false⟩
  unfold stays at h
  unfold rest at *
  rw [txt_len, kept_len _ _ h] at hi
  rw [nats_txt _ (kept_lt _ _ _), kept_at hi hc]
  exact ⟨_, rfl, left_or _ _ _⟩
theorem rest_nil (late : ByteArray) (k : Int) : rest late ByteArray.empty k = late.extract 0 (rest late ByteArray.empty k).size := by
  have h := stays_le k ⟨ByteArray.empty, late, 0, 0, false⟩
  unfold stays at h
  have h2 : (rest late ByteArray.empty k).size = (k % ((late.size : Int) + 1)).toNat := by
    unfold rest
    rw [txt_len, kept_len _ _ h]
  rw [h2]
  unfold rest
  rw [kept_nil, txt_take]
theorem crash_is (k : Int) (mask : ByteArray) (d : Dk) : crash k mask d = ⟨d.done ++ rest d.late mask k, ByteArray.empty, d.room, -1, false⟩ := rfl
theorem dk_crash (k : Int) (v l m : ByteArray) : crash k m (dk v l) = dk (v ++ rest l m k) ByteArray.empty := rfl
theorem Ok.dk {v l : ByteArray} (h : v.size + l.size ≤ 1048576) : Ok (dk v l) := ⟨h, by show (0 : Int) ≤ 1048576; omega, by show (1048576 : Int) ≤ 1048576; omega, by show (-1 : Int) ≤ -1; omega, by show (-1 : Int) ≤ _; omega⟩
end BlockMath
