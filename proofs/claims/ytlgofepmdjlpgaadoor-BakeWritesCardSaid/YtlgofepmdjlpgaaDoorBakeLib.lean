/-
  What the library's functions, and the program's own text.Token, Octets and Trim, answer chapter 14's program, in lists of numbers. The conditions: those typed (texts of at most 20,000 bytes; the tables as Go's text lays them).
-/
import Derived.Test.YtlgofepmdjlpgaaDoorBakeMath3
import Derived.Test.YtlgofepmdjlpgaaDoorBakeCut
import Derived.Test.YtlgofepmdjlpgaaDoorBakeShelf
import Derived.Test.YtlgofepmdjlpgaaDoorPart15
import Derived.Test.YtlgofepmdjlpgaaDoorTextTests
import Derived.Lib.ItoaMem
namespace Go.Proofs.YtlgofepmdjlpgaaDoor
open Go.RowKit TextNat BakeMath

/-- The table of powers of ten, as Go's text lays it. -/
def Pows (w : World) : Prop := Lib.TabIs Tryd.prog w "internal/strconv.uint64pow10" .u64 Lib.pow10Tab
theorem Pows.below {w w' : World} (h : Pows w) (hb : Below w.heap.size w w') : Pows w' := by
  unfold Pows Lib.TabIs World.var? at *
  cases hg : Tryd.prog.globalNamed "internal/strconv.uint64pow10" with
  | none => simp [hg] at h
  | some g =>
    simp only [hg, Option.bind_some] at h ⊢
    have hlt : g < w.heap.size := by
      rcases Nat.lt_or_ge g w.heap.size with h' | h'
      · exact h'
      · rw [Array.getElem?_eq_none h'] at h; simp at h
    rw [hb.block g hlt]
    exact h
theorem has_prefix (s : ByteArray) (c : UInt8) (w : World) : Calls Tryd.prog 40 #[.string s, .string ⟨#[c]⟩] w fun e w' => e = .returned (.bool ((nats s).head? == some c.toNat)) ∧ w' = w :=
  (Tryd.L_strings_HasPrefix s ⟨#[c]⟩ w).mono fun e w' h => ⟨by rw [h.1, ← pre_one], h.2⟩
theorem has_suffix (s : ByteArray) (c : UInt8) (w : World) (hs : s.size ≤ 9223372036854775807) : Calls Tryd.prog 47 #[.string s, .string ⟨#[c]⟩] w fun e w' => e = .returned (.bool ((nats s).getLast? == some c.toNat)) ∧ w' = w :=
  (Tryd.L_strings_HasSuffix s ⟨#[c]⟩ w hs).mono fun e w' h => ⟨by rw [h.1, ← suf_one], h.2⟩
theorem cut_prefix (s : ByteArray) (c : UInt8) (w : World) : Calls Tryd.prog 46 #[.string s, .string ⟨#[c]⟩] w fun e w' => e = .returned (.tuple #[.string (txt (unled c.toNat (nats s))), .bool ((nats s).head? == some c.toNat)]) ∧ w' = w :=
  (Tryd.L_strings_CutPrefix s ⟨#[c]⟩ w).mono fun e w' h => ⟨by rw [h.1, ← pre_one, ← cut_one], h.2⟩
theorem below_grow {w w' : World} {os : Array Obj} (hb : Below w.heap.size w w') : Below w.heap.size w (Go.Sort.grow w' os) :=
  ⟨hb.os, hb.tape, hb.output, by have := hb.size; simp only [Go.Sort.grow, Array.size_append]; omega, fun k hk => by
    have h1 := hb.block k hk
    have h2 := hb.size
    simp only [Go.Sort.grow]
    rw [Array.getElem?_append_left (by omega)]
    exact h1⟩
theorem itoa_call (n : Nat) (h : n ≤ top) (w : World) (hp : Pows w) : Calls Tryd.prog 15 #[.int .i64 (n : Int)] w fun e w' => e = .returned (.string (txt (dec n))) ∧ Below w.heap.size w w' :=
  (Tryd.L_strconv_Itoa (n : Int) (by omega) (by unfold top at h; omega) w hp).mono fun e w' ⟨h1, k, os, h2⟩ => ⟨by rw [h1, itoa_txt h], by rw [h2]; exact below_grow ⟨rfl, rfl, rfl, Nat.le_refl _, fun _ _ => rfl⟩⟩
theorem flat_le : ∀ (r : List (List Nat)), (∀ y ∈ r, y.length ≤ 20000) → (r.flatMap fun a => 59 :: 32 :: a).length ≤ 20002 * r.length
  | [], _ => by simp
  | a :: r, h => by
    have h1 := flat_le r fun y hy => h y (by simp [hy])
    have h2 := h a (by simp)
    simp only [List.flatMap_cons, List.length_append, List.length_cons]
    omega
theorem join_call (x : List Nat) (r : List (List Nat)) (g c : Nat) (w : World) (hc : ∀ (j : Nat) y, (x :: r)[j]? = some y → w.cell? ⟨g, j, none⟩ = some (.string (txt y))) (hg : g < w.heap.size) (hcap : r.length + 1 ≤ c) (hr : r.length ≤ 10) (hl : ∀ y ∈ x :: r, y.length ≤ 20000) :
    Calls Tryd.prog 16 #[.slice (some ⟨g, 0, none⟩) (r.length + 1) c, .string ⟨#[59, 32]⟩] w fun e w' => e = .returned (.string (txt (x ++ r.flatMap fun a => 59 :: 32 :: a))) ∧ Below w.heap.size w w' := by
  have h2 := join_more x r
  have h1 := Tryd.L_strings_Join g 0 c ((x :: r).map txt) ⟨#[59, 32]⟩ w (fun j y hy => by
    rw [List.getElem?_map] at hy
    obtain ⟨z, hz, rfl⟩ := Option.map_eq_some_iff.1 hy
    rw [Nat.zero_add]
    exact hc j z hz) hg (by simp; omega) (by simp; omega) (by
      have h3 := congrArg ByteArray.size h2
      rw [txt_len] at h3
      have h4 := flat_le r fun y hy => hl y (by simp [hy])
      have h5 := hl x (by simp)
      rw [List.length_append] at h3
      have h6 : (Lib.join (((x :: r).map txt).map (·.data.toList)) [59, 32]).length = x.length + (r.flatMap fun a => 59 :: 32 :: a).length := by
        rw [← h3]; simp [ByteArray.size]
      show (Lib.join (((x :: r).map txt).map (·.data.toList)) [59, 32]).length ≤ _
      omega)
  rw [List.length_map, List.length_cons] at h1
  exact h1.mono fun e w' h => ⟨by rw [h.1, ← h2], h.2⟩
theorem token_call (s : ByteArray) (w : World) (hs : s.size ≤ 20000) : Calls Tryd.prog 29 #[.string s] w fun e w' => e = .returned (.bool (TextMath.token (nats s))) ∧ w' = w := token_same s w hs
theorem octets_call (s : ByteArray) (w : World) (hs : s.size ≤ 20000) : Calls Tryd.prog 30 #[.string s] w fun e w' => e = .returned (.bool ((nats s).all TextMath.octet)) ∧ w' = w := octets_same s w hs
theorem ptrim_call (s : ByteArray) (w : World) (hs : s.size ≤ 20000) (hT : Tabs w) : Calls Tryd.prog 38 #[.string s] w fun e w' => e = .returned (.string (txt (TextMath.trim (nats s)))) ∧ Below w.heap.size w w' := trimOk s w hs hT
end Go.Proofs.YtlgofepmdjlpgaaDoor
