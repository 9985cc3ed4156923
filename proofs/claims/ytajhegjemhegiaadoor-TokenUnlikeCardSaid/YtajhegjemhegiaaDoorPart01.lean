/-
  Texts of one claim, merged.
  ShaMath: Plain mathematics of SHA-256 and HMAC over lists of numbers: the words, the schedule, the rounds, the padding, the digest, the tag. No program, no conditions but those typed.
  ShaSmall: The contracts of the small functions of the document's own answer of chapter 3: rotr, Number, constants. The conditions: numbers within their kinds; at most eight bytes.
  Text: Texts as lists of numbers below 256, and back. No conditions but those typed.
-/
import Derived.Test.YtajhegjemhegiaaDoorProg
import Derived.Laws.BitsAllLaws
import Derived.WalkKit
import Derived.Handy
import Derived.Outline
import Derived.Lib.Hide
import Derived.OwnWalk
import Derived.Deep.LoopGhost
namespace ShaMath

def M : Nat := 4294967296
/-- A word turned to the right. -/
def rotr (x n : Nat) : Nat := x / 2 ^ n ||| x * 2 ^ (32 - n) % 4294967296
def small0 (x : Nat) : Nat := (rotr x 7 ^^^ rotr x 18) ^^^ x / 8
def small1 (x : Nat) : Nat := (rotr x 17 ^^^ rotr x 19) ^^^ x / 1024
def big0 (a : Nat) : Nat := (rotr a 2 ^^^ rotr a 13) ^^^ rotr a 22
def big1 (e : Nat) : Nat := (rotr e 6 ^^^ rotr e 11) ^^^ rotr e 25
def ch (e f g : Nat) : Nat := (e &&& f) ^^^ ((4294967295 ^^^ e) &&& g)
def maj (a b c : Nat) : Nat := ((a &&& b) ^^^ (a &&& c)) ^^^ (b &&& c)

/-- The 64 words of the standard. -/
def ks : List Nat := [0x428a2f98, 0x71374491, 0xb5c0fbcf, 0xe9b5dba5, 0x3956c25b, 0x59f111f1, 0x923f82a4, 0xab1c5ed5, 0xd807aa98, 0x12835b01, 0x243185be, 0x550c7dc3, 0x72be5d74, 0x80deb1fe, 0x9bdc06a7, 0xc19bf174, 0xe49b69c1, 0xefbe4786, 0x0fc19dc6, 0x240ca1cc, 0x2de92c6f, 0x4a7484aa, 0x5cb0a9dc, 0x76f988da, 0x983e5152, 0xa831c66d, 0xb00327c8, 0xbf597fc7, 0xc6e00bf3, 0xd5a79147, 0x06ca6351, 0x14292967, 0x27b70a85, 0x2e1b2138, 0x4d2c6dfc, 0x53380d13, 0x650a7354, 0x766a0abb, 0x81c2c92e, 0x92722c85, 0xa2bfe8a1, 0xa81a664b, 0xc24b8b70, 0xc76c51a3, 0xd192e819, 0xd6990624, 0xf40e3585, 0x106aa070, 0x19a4c116, 0x1e376c08, 0x2748774c, 0x34b0bcb5, 0x391c0cb3, 0x4ed8aa4a, 0x5b9cca4f, 0x682e6ff3, 0x748f82ee, 0x78a5636f, 0x84c87814, 0x8cc70208, 0x90befffa, 0xa4506ceb, 0xbef9a3f7, 0xc67178f2]
def kAt (t : Nat) : Nat := ks.getD t 0

/-- Some bytes as a number, the highest first. -/
def number (l : List Nat) : Nat := l.foldl (fun x b => x * 256 + b) 0
/-- Word t of a block that begins at 'at'. -/
def wordAt (m : List Nat) (i t : Nat) : Nat := number ((List.range 4).map fun j => m.getD (i + 4 * t + j) 0)
/-- The next word of the schedule. -/
def next (l : List Nat) (n : Nat) : Nat := (small1 (l.getD (n + 14) 0) + l.getD (n + 9) 0 + small0 (l.getD (n + 1) 0) + l.getD n 0) % 4294967296
def first (m : List Nat) (i : Nat) : Nat → List Nat
  | 0 => []
  | t + 1 => first m i t ++ [wordAt m i t]
def sched (m : List Nat) (i : Nat) : Nat → List Nat
  | 0 => first m i 16
  | n + 1 => sched m i n ++ [next (sched m i n) n]

structure Regs where
  a : Nat
  b : Nat
  c : Nat
  d : Nat
  e : Nat
  f : Nat
  g : Nat
  h : Nat

def t1 (r : Regs) (k w : Nat) : Nat := (r.h + big1 r.e + ch r.e r.f r.g + k + w) % 4294967296
def t2 (r : Regs) : Nat := (big0 r.a + maj r.a r.b r.c) % 4294967296
def round (r : Regs) (k w : Nat) : Regs := ⟨(t1 r k w + t2 r) % 4294967296, r.a, r.b, r.c, (r.d + t1 r k w) % 4294967296, r.e, r.f, r.g⟩
def rounds (r : Regs) (w : List Nat) : Nat → Regs
  | 0 => r
  | t + 1 => round (rounds r w t) (kAt t) (w.getD t 0)
def add (r s : Regs) : Regs := ⟨(r.a + s.a) % 4294967296, (r.b + s.b) % 4294967296, (r.c + s.c) % 4294967296, (r.d + s.d) % 4294967296, (r.e + s.e) % 4294967296, (r.f + s.f) % 4294967296, (r.g + s.g) % 4294967296, (r.h + s.h) % 4294967296⟩
def r0 : Regs := ⟨0x6a09e667, 0xbb67ae85, 0x3c6ef372, 0xa54ff53a, 0x510e527f, 0x9b05688c, 0x1f83d9ab, 0x5be0cd19⟩
/-- Behind n blocks. -/
def blocks (m : List Nat) : Nat → Regs
  | 0 => r0
  | n + 1 => add (blocks m n) (rounds (blocks m n) (sched m (64 * n) 48) 64)
def Regs.list (r : Regs) : List Nat := [r.a, r.b, r.c, r.d, r.e, r.f, r.g, r.h]
def four (x : Nat) : List Nat := [x / 16777216 % 256, x / 65536 % 256, x / 256 % 256, x % 256]
def eight (x : Nat) : List Nat := four (x / 4294967296) ++ four x
/-- How many noughts stand behind the 1. -/
def zeros (n : Nat) : Nat := (119 - n % 64) % 64
def pad (s : List Nat) : List Nat := s ++ [128] ++ List.replicate (zeros s.length) 0 ++ eight (8 * s.length)
def digest (s : List Nat) : List Nat := (blocks (pad s) ((pad s).length / 64)).list.flatMap four
/-- The key, 64 bytes, each turned by c. -/
def filled (k : List Nat) (c : Nat) : List Nat := (List.range 64).map fun i => k.getD i 0 ^^^ c
def short (k : List Nat) : List Nat := if 64 < k.length then digest k else k
def tag (k s : List Nat) : List Nat := digest (filled (short k) 0x5c ++ digest (filled (short k) 0x36 ++ s))
def derive (k : List Nat) (n : Nat) : List Nat := tag k ([107, 101, 121] ++ eight n)

/-! ### All stays within 32 bits -/
theorem xlt {a b : Nat} (ha : a < 4294967296) (hb : b < 4294967296) : a ^^^ b < 4294967296 := Nat.xor_lt_two_pow (n := 32) ha hb
theorem olt {a b : Nat} (ha : a < 4294967296) (hb : b < 4294967296) : a ||| b < 4294967296 := Nat.or_lt_two_pow (n := 32) ha hb
theorem alt {a b : Nat} (ha : a < 4294967296) : a &&& b < 4294967296 := Nat.lt_of_le_of_lt Nat.and_le_left ha
theorem rotr_lt {x n : Nat} (hx : x < 4294967296) : rotr x n < 4294967296 := olt (Nat.lt_of_le_of_lt (Nat.div_le_self _ _) hx) (Nat.mod_lt _ (by decide))
theorem big0_lt {x : Nat} (hx : x < 4294967296) : big0 x < 4294967296 := xlt (xlt (rotr_lt hx) (rotr_lt hx)) (rotr_lt hx)
theorem big1_lt {x : Nat} (hx : x < 4294967296) : big1 x < 4294967296 := xlt (xlt (rotr_lt hx) (rotr_lt hx)) (rotr_lt hx)
theorem small0_lt {x : Nat} (hx : x < 4294967296) : small0 x < 4294967296 := xlt (xlt (rotr_lt hx) (rotr_lt hx)) (by omega)
theorem small1_lt {x : Nat} (hx : x < 4294967296) : small1 x < 4294967296 := xlt (xlt (rotr_lt hx) (rotr_lt hx)) (by omega)
theorem ch_lt {e f g : Nat} (he : e < 4294967296) : ch e f g < 4294967296 := xlt (alt he) (alt (xlt (by decide) he))
theorem maj_lt {a b c : Nat} (ha : a < 4294967296) (hb : b < 4294967296) : maj a b c < 4294967296 := xlt (xlt (alt ha) (alt ha)) (alt hb)
structure Regs.Ok (r : Regs) : Prop where
  a : r.a < 4294967296
  b : r.b < 4294967296
  c : r.c < 4294967296
  d : r.d < 4294967296
  e : r.e < 4294967296
  f : r.f < 4294967296
  g : r.g < 4294967296
  h : r.h < 4294967296
theorem round_ok {r : Regs} (h : r.Ok) (k w : Nat) : (round r k w).Ok := ⟨Nat.mod_lt _ (by decide), h.a, h.b, h.c, Nat.mod_lt _ (by decide), h.e, h.f, h.g⟩
theorem rounds_ok {r : Regs} (h : r.Ok) (w : List Nat) : ∀ t, (rounds r w t).Ok
  | 0 => h
  | t + 1 => round_ok (rounds_ok h w t) _ _
theorem add_ok (r s : Regs) : (add r s).Ok := ⟨Nat.mod_lt _ (by decide), Nat.mod_lt _ (by decide), Nat.mod_lt _ (by decide), Nat.mod_lt _ (by decide), Nat.mod_lt _ (by decide), Nat.mod_lt _ (by decide), Nat.mod_lt _ (by decide), Nat.mod_lt _ (by decide)⟩
theorem r0_ok : r0.Ok := ⟨by decide, by decide, by decide, by decide, by decide, by decide, by decide, by decide⟩
theorem blocks_ok (m : List Nat) : ∀ n, (blocks m n).Ok
  | 0 => r0_ok
  | _ + 1 => add_ok _ _
theorem kAt_lt : ∀ t, t < 64 → kAt t < 4294967296 := by decide
theorem ks_at (t : Nat) (ht : t < 64) : ks[t]? = some (kAt t) := by
  have : t < ks.length := ht
  unfold kAt
  rw [List.getD_eq_getElem?_getD, List.getElem?_eq_getElem this]
  rfl
theorem first_len (m : List Nat) (i : Nat) : ∀ t, (first m i t).length = t
  | 0 => rfl
  | t + 1 => by simp [first, first_len m i t]
theorem sched_len (m : List Nat) (i : Nat) : ∀ n, (sched m i n).length = 16 + n
  | 0 => first_len m i 16
  | n + 1 => by simp [sched, sched_len m i n]; omega
theorem number_lt : ∀ (l : List Nat) (x : Nat), (∀ b ∈ l, b < 256) → l.foldl (fun x b => x * 256 + b) x < (x + 1) * 256 ^ l.length
  | [], x, _ => by simp
  | b :: l, x, h => by
    have hb := h b (by simp)
    have ih := number_lt l (x * 256 + b) (fun c hc => h c (by simp [hc]))
    rw [List.foldl_cons, List.length_cons, Nat.pow_succ]
    have : (x * 256 + b + 1) * 256 ^ l.length ≤ (x + 1) * (256 ^ l.length * 256) := by
      rw [Nat.mul_comm (256 ^ l.length), ← Nat.mul_assoc]
      exact Nat.mul_le_mul_right _ (by omega)
    omega
/-- The beginning of a word. -/
def part (m : List Nat) (p i : Nat) : Nat := number ((List.range i).map fun j => m.getD (p + j) 0)
theorem part_succ (m : List Nat) (p i : Nat) : part m p (i + 1) = part m p i * 256 + m.getD (p + i) 0 := by
  unfold part number
  rw [List.range_succ, List.map_append, List.foldl_append]
  rfl
theorem part_word (m : List Nat) (i t : Nat) : part m (i + 4 * t) 4 = wordAt m i t := rfl
theorem part_lt {m : List Nat} (hm : ∀ b ∈ m, b < 256) (p i : Nat) : part m p i < 256 ^ i := by
  have h := number_lt ((List.range i).map fun j => m.getD (p + j) 0) 0 (fun b hb => by
    obtain ⟨j, _, rfl⟩ := List.mem_map.1 hb
    rw [List.getD_eq_getElem?_getD]
    cases hq : m[p + j]? with
    | none => simp
    | some z => simpa using hm z (List.mem_of_getElem? hq))
  have e : (0 + 1) * 256 ^ ((List.range i).map fun j => m.getD (p + j) 0).length = 256 ^ i := by simp
  rw [e] at h
  exact h
theorem wordAt_lt {m : List Nat} (hm : ∀ b ∈ m, b < 256) (i t : Nat) : wordAt m i t < 4294967296 := by
  have h := number_lt ((List.range 4).map fun j => m.getD (i + 4 * t + j) 0) 0 (fun b hb => by
    obtain ⟨j, _, rfl⟩ := List.mem_map.1 hb
    rw [List.getD_eq_getElem?_getD]
    cases hq : m[i + 4 * t + j]? with
    | none => simp
    | some z => simpa using hm z (List.mem_of_getElem? hq))
  have e : (0 + 1) * 256 ^ ((List.range 4).map fun j => m.getD (i + 4 * t + j) 0).length = 4294967296 := by simp
  rw [e] at h
  exact h
theorem first_lt {m : List Nat} (hm : ∀ b ∈ m, b < 256) (i : Nat) : ∀ t, ∀ x ∈ first m i t, x < 4294967296
  | 0, x, hx => by simp [first] at hx
  | t + 1, x, hx => by
    rcases List.mem_append.1 hx with h | h
    · exact first_lt hm i t x h
    · rw [List.mem_singleton.1 h]; exact wordAt_lt hm i t
theorem sched_lt {m : List Nat} (hm : ∀ b ∈ m, b < 256) (i : Nat) : ∀ n, ∀ x ∈ sched m i n, x < 4294967296
  | 0, x, hx => first_lt hm i 16 x hx
  | n + 1, x, hx => by
    rcases List.mem_append.1 hx with h | h
    · exact sched_lt hm i n x h
    · rw [List.mem_singleton.1 h]; exact Nat.mod_lt _ (by decide)
theorem four_len (x : Nat) : (four x).length = 4 := rfl
theorem eight_len (x : Nat) : (eight x).length = 8 := rfl
theorem four_lt (x : Nat) : ∀ b ∈ four x, b < 256 := by
  intro b hb
  simp only [four, List.mem_cons, List.not_mem_nil, or_false] at hb
  rcases hb with rfl | rfl | rfl | rfl <;> exact Nat.mod_lt _ (by decide)
theorem eight_lt (x : Nat) : ∀ b ∈ eight x, b < 256 := by
  intro b hb
  rcases List.mem_append.1 hb with h | h
  · exact four_lt _ b h
  · exact four_lt _ b h
theorem pad_len (s : List Nat) : (pad s).length % 64 = 0 := by
  simp only [pad, List.length_append, List.length_replicate, eight_len, List.length_cons, List.length_nil, zeros]
  omega
theorem pad_lt {s : List Nat} (hs : ∀ b ∈ s, b < 256) : ∀ b ∈ pad s, b < 256 := by
  intro b hb
  simp only [pad, List.mem_append, List.mem_singleton, List.mem_replicate] at hb
  rcases hb with ((h | h) | h) | h
  · exact hs b h
  · omega
  · omega
  · exact eight_lt _ b h
theorem digest_len (s : List Nat) : (digest s).length = 32 := rfl
theorem digest_lt (s : List Nat) : ∀ b ∈ digest s, b < 256 := by
  intro b hb
  obtain ⟨x, _, h⟩ := List.mem_flatMap.1 hb
  exact four_lt x b h
theorem filled_len (k : List Nat) (c : Nat) : (filled k c).length = 64 := by simp [filled]
theorem filled_lt {k : List Nat} (hk : ∀ b ∈ k, b < 256) {c : Nat} (hc : c < 256) : ∀ b ∈ filled k c, b < 256 := by
  intro b hb
  obtain ⟨i, _, rfl⟩ := List.mem_map.1 hb
  refine Nat.xor_lt_two_pow (n := 8) ?_ hc
  rw [List.getD_eq_getElem?_getD]
  cases hq : k[i]? with
  | none => simp
  | some z => simpa using hk z (List.mem_of_getElem? hq)
theorem short_lt {k : List Nat} (hk : ∀ b ∈ k, b < 256) : ∀ b ∈ short k, b < 256 := by
  unfold short
  split
  · exact digest_lt k
  · exact hk
theorem short_len (k : List Nat) : (short k).length ≤ 64 := by
  unfold short
  split
  · rw [digest_len]; decide
  · omega
theorem tag_len (k s : List Nat) : (tag k s).length = 32 := rfl
end ShaMath
namespace Go.Proofs.YtajhegjemhegiaaDoor
open Go.RowKit

/-- A word turned to the right. -/
def rot (x : Int) (n : Nat) : Int := bits .or .u32 (x / 2 ^ n) (x * 2 ^ (32 - n) % 4294967296)

theorem make4 (w : World) : (Instr.makeSlice 43 (.int .i64 4) (.int .i64 4)).run Tryd.prog w = .ok (.slice (some ⟨w.heap.size, 0, none⟩) 4 4) (w.alloc (.cells #[.int .u8 0, .int .u8 0, .int .u8 0, .int .u8 0] 5)) := by kernel_rfl
theorem make8 (w : World) : (Instr.makeSlice 43 (.int .i64 8) (.int .i64 8)).run Tryd.prog w = .ok (.slice (some ⟨w.heap.size, 0, none⟩) 8 8) (w.alloc (.cells #[.int .u8 0, .int .u8 0, .int .u8 0, .int .u8 0, .int .u8 0, .int .u8 0, .int .u8 0, .int .u8 0] 5)) := by kernel_rfl

def kCells : Array Value := (ShaMath.ks.map fun (k : Nat) => Value.int .u32 (k : Int)).toArray
end Go.Proofs.YtajhegjemhegiaaDoor
namespace TextNat
/-- A text's bytes. -/
def nats (s : ByteArray) : List Nat := s.data.toList.map UInt8.toNat
/-- The text of these bytes. -/
def txt (l : List Nat) : ByteArray := ⟨(l.map UInt8.ofNat).toArray⟩
theorem nats_len (s : ByteArray) : (nats s).length = s.size := by rw [nats, List.length_map]; exact Array.length_toList
theorem nats_lt (s : ByteArray) : ∀ b ∈ nats s, b < 256 := by
  intro b hb
  obtain ⟨x, _, rfl⟩ := List.mem_map.1 hb
  exact UInt8.toNat_lt x
theorem txt_len (l : List Nat) : (txt l).size = l.length := by simp [txt, ByteArray.size]
theorem txt_nats (s : ByteArray) : txt (nats s) = s := by
  obtain ⟨a⟩ := s
  simp only [txt, nats, List.map_map]
  congr 1
  have : (UInt8.ofNat ∘ UInt8.toNat) = id := by funext x; simp
  rw [this, List.map_id]
theorem nats_txt (l : List Nat) (h : ∀ b ∈ l, b < 256) : nats (txt l) = l := by
  simp only [txt, nats, List.map_map]
  have : ∀ l : List Nat, (∀ b ∈ l, b < 256) → l.map (UInt8.toNat ∘ UInt8.ofNat) = l := by
    intro l
    induction l with
    | nil => intro _; rfl
    | cons a r ih =>
      intro h
      have ha := h a (by simp)
      rw [List.map_cons, ih (fun b hb => h b (by simp [hb]))]
      congr 1
      show (UInt8.ofNat a).toNat = a
      rw [UInt8.toNat_ofNat']
      omega
  exact this l h
theorem nats_inj {s t : ByteArray} (h : nats s = nats t) : s = t := by rw [← txt_nats s, ← txt_nats t, h]
theorem nats_append (s t : ByteArray) : nats (s ++ t) = nats s ++ nats t := by
  have e : (s ++ t).data = s.data ++ t.data := by simp
  simp [nats, e]
theorem txt_append (a b : List Nat) : txt a ++ txt b = txt (a ++ b) := by
  have e : (txt a ++ txt b).data = (txt a).data ++ (txt b).data := by simp
  have h : ∀ x y : ByteArray, x.data = y.data → x = y := fun x y h => by cases x; cases y; simpa using h
  apply h
  rw [e]
  simp [txt]
theorem nats_at (s : ByteArray) (i : Nat) (h : i < s.size) : (nats s)[i]? = some (s[i].toNat) := by
  rw [nats, List.getElem?_map]
  have e : s.data.toList[i]? = some s[i] := by
    rw [Array.getElem?_toList]
    exact Array.getElem?_eq_getElem h
  rw [e]
  rfl
end TextNat
