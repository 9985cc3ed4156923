/-
  Plain mathematics of chapter 8: what a device has, and what each call does to it. No program, no conditions but those typed.
-/
import Derived.Test.YtfdldjhndfohhaaDoorText
namespace BlockMath
open TextNat
theorem ba_ext {x y : ByteArray} (h : x.data = y.data) : x = y := by cases x; cases y; simpa using h
/-- A device: what is safe, what lies behind that, the room, the fuse (below 0: none), the power. -/
structure Dk where
  done : ByteArray
  late : ByteArray
  room : Int
  fuse : Int
  off : Bool
def all (d : Dk) : ByteArray := d.done ++ d.late
theorem all_size (d : Dk) : (all d).size = d.done.size + d.late.size := by unfold all; rw [ByteArray.size_append]
/-- How many bytes an error's place names. -/
def size (d : Dk) : Int := if d.off then 0 else ((all d).size : Int)
/-- Is an operation done? -/
def doesB (d : Dk) : Bool := !d.off && !decide (d.fuse = 0)
def doesD (d : Dk) : Dk := if d.off then d else if d.fuse = 0 then { d with off := true } else if 0 < d.fuse then { d with fuse := d.fuse - 1 } else d
def append (s : ByteArray) (d : Dk) : Int × Dk :=
  if d.off = false ∧ d.room - ((all d).size : Int) < (s.size : Int) then (4, d)
  else if doesB d then (0, { doesD d with late := (doesD d).late ++ s }) else (5, doesD d)
def sync (d : Dk) : Int × Dk := if doesB d then (0, { doesD d with done := all (doesD d), late := ByteArray.empty }) else (5, doesD d)
def cutD (n : Nat) (d : Dk) : Dk :=
  if n ≤ d.done.size then { d with done := d.done.extract 0 n, late := ByteArray.empty } else { d with late := d.late.extract 0 (n - d.done.size) }
def cut (n : Int) (d : Dk) : Int × Dk :=
  if d.off = false ∧ (n < 0 ∨ ((all d).size : Int) < n) then (1, d)
  else if doesB d then (0, cutD n.toNat (doesD d)) else (5, doesD d)
def read (a b : Int) (d : Dk) : ByteArray × Int :=
  if d.off then (ByteArray.empty, 5) else if a < 0 ∨ b < a ∨ ((all d).size : Int) < b then (ByteArray.empty, 1) else ((all d).extract a.toNat b.toNat, 0)
def room (n : Int) (d : Dk) : Int × Dk := if n < 0 ∨ 1048576 < n then (1, d) else (0, { d with room := n })
def fuse (n : Int) (d : Dk) : Dk := { d with fuse := max n (-1) }
/-- How many stay. -/
def stays (kept : Int) (d : Dk) : Nat := (kept % ((d.late.size : Int) + 1)).toNat
/-- What a byte that stays is. -/
def left (mask : ByteArray) (i : Nat) (c : Nat) : Nat := if mask.size = 0 then c else if (nats mask)[i % mask.size]?.getD 0 % 2 = 0 then 0 else c
def kept (l mask : ByteArray) (n : Nat) : List Nat := (((nats l).take n).zipIdx).map fun x => left mask x.2 x.1
def crash (k : Int) (mask : ByteArray) (d : Dk) : Dk := { done := d.done ++ txt (kept d.late mask (stays k d)), late := ByteArray.empty, room := d.room, fuse := -1, off := false }
def rotB (at_ : Int) (b : Nat) (d : Dk) : Bool := !d.off && decide (0 ≤ at_) && decide (at_ < (d.done.size : Int)) && !decide (b = 0)
def rotD (at_ : Int) (b : Nat) (d : Dk) : Dk :=
  if rotB at_ b d then { d with done := d.done.extract 0 at_.toNat ++ txt [(((nats d.done)[at_.toNat]?.getD 0) ^^^ b) % 256] ++ d.done.extract (at_.toNat + 1) d.done.size } else d
/-- What can be of a device. -/
structure Ok (d : Dk) : Prop where
  all : d.done.size + d.late.size ≤ 1048576
  room0 : 0 ≤ d.room
  room1 : d.room ≤ 1048576
  fuse0 : -1 ≤ d.fuse
  fuse1 : d.fuse ≤ 9223372036854775807
def new (r : Int) : Dk := ⟨ByteArray.empty, ByteArray.empty, r, -1, false⟩
theorem Ok.new {r : Int} (h0 : 0 ≤ r) (h1 : r ≤ 1048576) : Ok (new r) := ⟨by show (0 : Nat) + 0 ≤ _; omega, h0, h1, by show (-1 : Int) ≤ -1; omega, by show (-1 : Int) ≤ _; omega⟩
theorem Ok.does {d : Dk} (h : Ok d) : Ok (doesD d) := by
  unfold doesD
  split
  · exact h
  · split
    · exact ⟨h.all, h.room0, h.room1, h.fuse0, h.fuse1⟩
    · split
      · exact ⟨h.all, h.room0, h.room1, by show -1 ≤ d.fuse - 1; omega, by show d.fuse - 1 ≤ _; have := h.fuse1; omega⟩
      · exact h
theorem doesD_done (d : Dk) : (doesD d).done = d.done := by unfold doesD; split <;> (try rfl); split <;> (try rfl); split <;> rfl
theorem doesD_late (d : Dk) : (doesD d).late = d.late := by unfold doesD; split <;> (try rfl); split <;> (try rfl); split <;> rfl
theorem doesD_room (d : Dk) : (doesD d).room = d.room := by unfold doesD; split <;> (try rfl); split <;> (try rfl); split <;> rfl
theorem Ok.append {d : Dk} (h : Ok d) (s : ByteArray) : Ok (append s d).2 := by
  unfold BlockMath.append
  split
  · exact h
  · rename_i hn
    split
    · rename_i hd
      refine ⟨?_, h.does.room0, h.does.room1, h.does.fuse0, h.does.fuse1⟩
      have ho : d.off = false := by unfold doesB at hd; cases e : d.off with | false => rfl | true => rw [e] at hd; simp at hd
      have h1 : ¬ (d.room - ((BlockMath.all d).size : Int) < (s.size : Int)) := fun k => hn ⟨ho, k⟩
      rw [all_size] at h1
      show (doesD d).done.size + ((doesD d).late ++ s).size ≤ _
      rw [ByteArray.size_append, doesD_done, doesD_late]
      have := h.room1
      omega
    · exact h.does
theorem Ok.sync {d : Dk} (h : Ok d) : Ok (sync d).2 := by
  unfold BlockMath.sync
  split
  · refine ⟨?_, h.does.room0, h.does.room1, h.does.fuse0, h.does.fuse1⟩
    show (BlockMath.all (doesD d)).size + 0 ≤ _
    rw [all_size]
    exact h.does.all
  · exact h.does
theorem Ok.cutD {d : Dk} (h : Ok d) (n : Nat) : Ok (cutD n d) := by
  unfold BlockMath.cutD
  have := h.all
  split
  · refine ⟨?_, h.room0, h.room1, h.fuse0, h.fuse1⟩
    show (d.done.extract 0 n).size + 0 ≤ _
    rw [ByteArray.size_extract]
    omega
  · refine ⟨?_, h.room0, h.room1, h.fuse0, h.fuse1⟩
    show d.done.size + (d.late.extract 0 (n - d.done.size)).size ≤ _
    rw [ByteArray.size_extract]
    omega
theorem Ok.cut {d : Dk} (h : Ok d) (n : Int) : Ok (cut n d).2 := by
  unfold BlockMath.cut
  split
  · exact h
  · split
    · exact h.does.cutD _
    · exact h.does
theorem Ok.room {d : Dk} (h : Ok d) (n : Int) : Ok (room n d).2 := by
  unfold BlockMath.room
  split
  · exact h
  · exact ⟨h.all, by show 0 ≤ n; omega, by show n ≤ _; omega, h.fuse0, h.fuse1⟩
theorem Ok.fuse {d : Dk} (h : Ok d) {n : Int} (hn : n ≤ 9223372036854775807) : Ok (fuse n d) := ⟨h.all, h.room0, h.room1, by show -1 ≤ max n (-1); omega, by show max n (-1) ≤ _; omega⟩
theorem stays_le (k : Int) (d : Dk) : stays k d ≤ d.late.size := by
  unfold stays
  have h1 := Int.emod_lt_of_pos k (show (0 : Int) < (d.late.size : Int) + 1 by omega)
  omega
theorem kept_len (l mask : ByteArray) {n : Nat} (h : n ≤ l.size) : (kept l mask n).length = n := by
  unfold kept
  rw [List.length_map, List.length_zipIdx, List.length_take, nats_len]
  omega
theorem Ok.crash {d : Dk} (h : Ok d) (k : Int) (mask : ByteArray) : Ok (crash k mask d) := by
  refine ⟨?_, h.room0, h.room1, by show (-1 : Int) ≤ -1; omega, by show (-1 : Int) ≤ _; omega⟩
  show (d.done ++ txt _).size + 0 ≤ _
  rw [ByteArray.size_append, txt_len, kept_len _ _ (stays_le k d)]
  have := stays_le k d
  have := h.all
  omega
theorem rotD_size {at_ : Int} {b : Nat} {d : Dk} : (rotD at_ b d).done.size = d.done.size := by
  unfold rotD
  split
  · rename_i hb
    unfold rotB at hb
    have h0 : 0 ≤ at_ := by simp at hb; omega
    have h1 : at_ < d.done.size := by simp at hb; omega
    show (d.done.extract 0 at_.toNat ++ txt _ ++ d.done.extract (at_.toNat + 1) d.done.size).size = _
    rw [ByteArray.size_append, ByteArray.size_append, ByteArray.size_extract, ByteArray.size_extract, txt_len]
    show _ + 1 + _ = _
    omega
  · rfl
theorem Ok.rot {d : Dk} (h : Ok d) (at_ : Int) (b : Nat) : Ok (rotD at_ b d) := by
  have hs := rotD_size (at_ := at_) (b := b) (d := d)
  have hl : (rotD at_ b d).late = d.late ∧ (rotD at_ b d).room = d.room ∧ (rotD at_ b d).fuse = d.fuse := by unfold rotD; split <;> exact ⟨rfl, rfl, rfl⟩
  exact ⟨by rw [hs, hl.1]; exact h.all, by rw [hl.2.1]; exact h.room0, by rw [hl.2.1]; exact h.room1, by rw [hl.2.2]; exact h.fuse0, by rw [hl.2.2]; exact h.fuse1⟩
theorem doesB_on {d : Dk} (ho : d.off = false) (hf : d.fuse = -1) : doesB d = true := by unfold doesB; rw [ho, hf]; rfl
theorem doesD_on {d : Dk} (ho : d.off = false) (hf : d.fuse = -1) : doesD d = d := by unfold doesD; rw [ho, hf]; rfl
theorem append_in {d : Dk} {s : ByteArray} (ho : d.off = false) (hf : d.fuse = -1) (h : ((all d).size : Int) + (s.size : Int) ≤ d.room) : append s d = (0, { d with late := d.late ++ s }) := by
  unfold append
  rw [if_neg (by omega), if_pos (doesB_on ho hf), doesD_on ho hf]
theorem append_full {d : Dk} {s : ByteArray} (ho : d.off = false) (h : d.room < ((all d).size : Int) + (s.size : Int)) : append s d = (4, d) := by
  unfold append
  rw [if_pos ⟨ho, by omega⟩]
theorem sync_in {d : Dk} (ho : d.off = false) (hf : d.fuse = -1) : sync d = (0, { d with done := all d, late := ByteArray.empty }) := by
  unfold sync
  rw [if_pos (doesB_on ho hf), doesD_on ho hf]
theorem size_on {d : Dk} (ho : d.off = false) : size d = ((all d).size : Int) := by unfold size; rw [ho]; rfl
theorem read_on {d : Dk} (ho : d.off = false) : read 0 (size d) d = (all d, 0) := by
  rw [size_on ho]
  unfold read
  rw [if_neg (by rw [ho]; decide), if_neg (by omega)]
  have : (all d).extract (0 : Int).toNat ((all d).size : Int).toNat = all d := by
    show (all d).extract 0 (all d).size = all d
    exact ByteArray.extract_zero_size
  rw [this]
theorem doesB_off {d : Dk} (ho : d.off = true) : doesB d = false := by unfold doesB; rw [ho]; rfl
theorem doesD_off {d : Dk} (ho : d.off = true) : doesD d = d := by unfold doesD; rw [if_pos ho]
theorem append_off {d : Dk} (s : ByteArray) (ho : d.off = true) : append s d = (5, d) := by
  unfold append
  rw [if_neg (by rw [ho]; simp), if_neg (by rw [doesB_off ho]; simp), doesD_off ho]
theorem sync_off {d : Dk} (ho : d.off = true) : sync d = (5, d) := by
  unfold sync
  rw [if_neg (by rw [doesB_off ho]; simp), doesD_off ho]
theorem cut_off {d : Dk} (n : Int) (ho : d.off = true) : cut n d = (5, d) := by
  unfold cut
  rw [if_neg (by rw [ho]; simp), if_neg (by rw [doesB_off ho]; simp), doesD_off ho]
theorem read_off {d : Dk} (n m : Int) (ho : d.off = true) : read n m d = (ByteArray.empty, 5) := by
  unfold read
  rw [if_pos ho]
theorem rotB_off {d : Dk} (n : Int) (c : Nat) (ho : d.off = true) : rotB n c d = false := by unfold rotB; rw [ho]; rfl
theorem rotD_off {d : Dk} (n : Int) (c : Nat) (ho : d.off = true) : rotD n c d = d := by
  unfold rotD
  rw [if_neg (by rw [rotB_off n c ho]; simp)]
theorem ba_nil (s : ByteArray) : ByteArray.empty ++ s = s := by simp
theorem ba_end (s : ByteArray) : s ++ ByteArray.empty = s := by simp
theorem kept_all (l : ByteArray) : kept l ByteArray.empty l.size = nats l := by
  unfold kept
  rw [show l.size = (nats l).length from (nats_len l).symm, List.take_length]
  apply List.ext_getElem?
  intro i
  rw [List.getElem?_map, List.getElem?_zipIdx]
  cases h : (nats l)[i]? with
  | none => simp
  | some c => simp [left]
theorem crash_all (d : Dk) : crash (d.late.size : Int) ByteArray.empty d = { done := all d, late := ByteArray.empty, room := d.room, fuse := -1, off := false } := by
  unfold crash
  have h : stays (d.late.size : Int) d = d.late.size := by
    unfold stays
    rw [Int.emod_eq_of_lt (by omega) (by omega)]
    omega
  rw [h, kept_all, txt_nats]
  rfl
/-- A device with a fuse of n, of which i were asked. -/
def fz (n i : Nat) (L : ByteArray) : Dk := ⟨ByteArray.empty, L, 1048576, (n : Int) - (min i n : Nat), decide (n < i)⟩
theorem fz_start (n : Nat) : fuse (n : Int) (new 1048576) = fz n 0 ByteArray.empty := by
  unfold fuse new fz
  rw [show max (n : Int) (-1) = (n : Int) - ((min 0 n : Nat) : Int) by omega, decide_eq_false (by omega)]
theorem fz_all (n i : Nat) (L : ByteArray) : all (fz n i L) = L := by
  show ByteArray.empty ++ L = L
  rw [ba_nil]
theorem fz_in {n i : Nat} {L s : ByteArray} (hi : i < n) (hl : L.size + s.size ≤ 1048576) : append s (fz n i L) = (0, fz n (i + 1) (L ++ s)) := by
  have ho : (fz n i L).off = false := decide_eq_false (by omega)
  have hf : (fz n i L).fuse = (n : Int) - (i : Int) := by show (n : Int) - ((min i n : Nat) : Int) = _; omega
  unfold append
  rw [if_neg (by rw [fz_all]; show ¬ (_ ∧ (1048576 : Int) - _ < _); omega), if_pos (by unfold doesB; rw [ho, hf, decide_eq_false (by omega)]; rfl)]
  unfold doesD
  rw [if_neg (by rw [ho]; simp), if_neg (by rw [hf]; omega), if_pos (by rw [hf]; omega), hf]
  show (0, (⟨ByteArray.empty, L ++ s, 1048576, (n : Int) - (i : Int) - 1, decide (n < i)⟩ : Dk)) = (0, ⟨ByteArray.empty, L ++ s, 1048576, (n : Int) - ((min (i + 1) n : Nat) : Int), decide (n < i + 1)⟩)
  rw [show (n : Int) - ((min (i + 1) n : Nat) : Int) = (n : Int) - (i : Int) - 1 by omega, decide_eq_false (show ¬ n < i by omega), decide_eq_false (show ¬ n < i + 1 by omega)]
theorem fz_out {n i : Nat} {L s : ByteArray} (hi : n ≤ i) (hl : L.size + s.size ≤ 1048576) : append s (fz n i L) = (5, fz n (i + 1) L) := by
  by_cases h : n < i
  · have ho : (fz n i L).off = true := decide_eq_true h
    rw [append_off s ho]
    unfold fz
    rw [show min (i + 1) n = min i n by omega, decide_eq_true h, decide_eq_true (show n < i + 1 by omega)]
  · obtain rfl : n = i := by omega
    have ho : (fz n n L).off = false := decide_eq_false (by omega)
    have hf : (fz n n L).fuse = 0 := by show (n : Int) - ((min n n : Nat) : Int) = _; omega
    unfold append
    rw [if_neg (by rw [fz_all]; show ¬ (_ ∧ (1048576 : Int) - _ < _); omega), if_neg (by unfold doesB; rw [ho, hf]; simp)]
    unfold doesD
    rw [if_neg (by rw [ho]; simp), if_pos hf]
    show (5, (⟨ByteArray.empty, L, 1048576, (n : Int) - ((min n n : Nat) : Int), true⟩ : Dk)) = (5, ⟨ByteArray.empty, L, 1048576, (n : Int) - ((min (n + 1) n : Nat) : Int), decide (n < n + 1)⟩)
    rw [show min (n + 1) n = min n n by omega, decide_eq_true (show n < n + 1 by omega)]
end BlockMath
