/-
  Texts of one claim, merged.
  TokenMath2: Plain mathematics of chapter 12: claims' tokens; what a text is the token of. No program is run here.
  Ints: A slice of ints in memory: what its cells hold, and that they stay. No program is run here.
  OwnBytes: A row of bytes that the call itself made, as bytes: opened, and with one byte written. No conditions but those typed.
-/
import Derived.Test.YtajhegjemhegiaaDoorPart10
import Derived.Test.YtajhegjemhegiaaDoorPart09
import Derived.Test.YtajhegjemhegiaaDoorPart11
import Derived.Test.YtajhegjemhegiaaDoorPart01
import Derived.Test.YtajhegjemhegiaaDoorProg
import Derived.WalkKit
import Derived.Handy
import Derived.Outline
import Derived.WideLaws
import Derived.Test.YtajhegjemhegiaaDoorPart04
import Derived.OwnWalk
import Derived.Laws.OwnMore
namespace TokenMath
open TextMath WireMath

def keyN (v : ClaimsT) : Nat := v.2.2.2.2.1
theorem mem_num {n : Nat} (h : n ≤ WireMath.big) : ∀ b ∈ WireMath.num n, b < 256 := num_bytes h
theorem counts_lt : ∀ {l : List Nat}, (∀ z ∈ l, z ≤ WireMath.big) → ∀ b ∈ countsBytes l, b < 256 := by
  intro l h b hb
  unfold countsBytes at hb
  obtain ⟨z, hz, hbz⟩ := List.mem_flatMap.1 hb
  exact mem_num (h z hz) b hbz
theorem bytes_lt {v : ClaimsT} (h : rightClaimsT v = true) (h1 : ∀ b ∈ v.1, b < 256) (h2 : ∀ b ∈ v.2.1, b < 256) : ∀ b ∈ claimsBytesT v, b < 256 := by
  unfold rightClaimsT at h
  simp only [Bool.and_eq_true, decide_eq_true_eq] at h
  obtain ⟨⟨⟨⟨⟨⟨⟨a1, a2⟩, a3⟩, a4⟩, a5⟩, a6⟩, a7⟩, a8⟩ := h
  obtain ⟨c1, c2⟩ := trimmed_counts a8
  intro b hb
  unfold claimsBytesT textBytes vecBytesN at hb
  simp only [List.mem_append] at hb
  rcases hb with (hb | hb) | (hb | hb) | hb | hb | hb | hb | hb
  · exact mem_num (by unfold WireMath.big; omega) b hb
  · exact h1 b hb
  · exact mem_num (by unfold WireMath.big; omega) b hb
  · exact h2 b hb
  · exact mem_num a5 b hb
  · exact mem_num a6 b hb
  · exact mem_num a7 b hb
  · exact mem_num (by unfold WireMath.big; omega) b hb
  · exact counts_lt c2 b hb
/-- The tag of claims under a master. -/
def tagOf (m : List Nat) (v : ClaimsT) : List Nat := ShaMath.tag (ShaMath.derive m (keyN v)) (claimsBytesT v)
theorem tag_len (m : List Nat) (v : ClaimsT) : (tagOf m v).length = 32 := rfl
/-- The token of claims under a master. -/
def tokenOf (m : List Nat) (v : ClaimsT) : List Nat := tok (claimsBytesT v) (tagOf m v)
theorem enc_one_way {a b : List Nat} (ha : ∀ x ∈ a, x < 256) (hb : ∀ x ∈ b, x < 256) (h : enc a = enc b) : a = b := by
  rw [← (dec_enc a ha).2, ← (dec_enc b hb).2, h]
/-- Texts of claims are bytes. -/
structure Octs (v : ClaimsT) : Prop where
  session : ∀ b ∈ v.1, b < 256
  user : ∀ b ∈ v.2.1, b < 256
theorem token_one {m m' : List Nat} {v w : ClaimsT} (hv : rightClaimsT v = true) (hw : rightClaimsT w = true) (ov : Octs v) (ow : Octs w) (h : tokenOf m v = tokenOf m' w) : v = w := by
  have h1 := enc_one_way (bytes_lt hv ov.session ov.user) (bytes_lt hw ow.session ow.user) (tok_parts h).1
  exact (claims_free hv hw (bytes_lt hv ov.session ov.user) (r := []) (by rw [h1, List.append_nil])).1
/-- What is cut, or has more behind it, is the token of nobody. -/
theorem token_cut {m m' : List Nat} {v w : ClaimsT} {i : Nat} (hi : i < (tokenOf m v).length) : (tokenOf m v).take i ≠ tokenOf m' w := fun h => tok_cut (tag_len m v) (tag_len m' w) hi h
theorem token_more {m m' : List Nat} {v w : ClaimsT} {c : Nat} : tokenOf m v ++ [c] ≠ tokenOf m' w := fun h => tok_more (tag_len m v) (tag_len m' w) h
/-- The claims that a text's letters ahead of its first dot are. -/
def claimsOf (l : List Nat) : Option ClaimsT := WireMath.whole l (readClaimsT l 64 32 WireMath.big WireMath.big WireMath.big) rightClaimsT
/-- The claims whose token a text is, if their key is alive. -/
def readF (alive : Nat → Bool) (m s : List Nat) : Option ClaimsT :=
  match s.findIdx? (· == 46) with
  | none => none
  | some i => if (fault (s.take i)).isSome then none else
    match claimsOf (decBytes (s.take i)) with
    | none => none
    | some v => if alive (keyN v) = true ∧ tokenOf m v = s then some v else none
theorem wide : wideC 64 32 WireMath.big WireMath.big WireMath.big := ⟨by decide, by decide, by decide, by decide, by decide⟩
theorem claimsOf_iff {l : List Nat} (hl : ∀ b ∈ l, b < 256) (v : ClaimsT) : claimsOf l = some v ↔ rightClaimsT v = true ∧ l = claimsBytesT v := claims_whole l hl wide v
theorem claims_octs {l : List Nat} (hl : ∀ b ∈ l, b < 256) {v : ClaimsT} (h : l = claimsBytesT v) : Octs v := by
  refine ⟨fun b hb => hl b ?_, fun b hb => hl b ?_⟩
  · rw [h]
    unfold claimsBytesT textBytes
    simp only [List.mem_append]
    exact .inl (.inr hb)
  · rw [h]
    unfold claimsBytesT textBytes
    simp only [List.mem_append]
    exact .inr (.inl (.inr hb))
theorem find_tok (b g : List Nat) : (tok b g).findIdx? (· == 46) = some (enc b).length := by
  rw [List.findIdx?_eq_some_iff_getElem]
  have h := tok_dot (b := b) (g := g) (i := (enc b).length) |>.2 rfl
  obtain ⟨h1, h2⟩ := List.getElem?_eq_some_iff.1 h
  refine ⟨h1, by rw [h2]; rfl, fun j hj => ?_⟩
  intro he
  have h3 : (tok b g)[j]? = some 46 := by
    rw [List.getElem?_eq_getElem (Nat.lt_trans hj h1)]
    congr 1
    simpa using he
  exact tok_first hj h3
/-- Read is what its definition says: just the token of right claims whose key is alive is taken, for them. -/
theorem readF_iff {alive : Nat → Bool} {m s : List Nat} {v : ClaimsT} : readF alive m s = some v ↔ rightClaimsT v = true ∧ Octs v ∧ alive (keyN v) = true ∧ s = tokenOf m v := by
  constructor
  · intro h
    unfold readF at h
    split at h
    · cases h
    · split at h
      · cases h
      · split at h
        · cases h
        · rename_i w hw
          split at h
          · rename_i ha
            obtain rfl := Option.some.inj h
            obtain ⟨h1, h2⟩ := (claimsOf_iff (decBytes_lt _) _).1 hw
            exact ⟨h1, claims_octs (decBytes_lt _) h2, ha.1, ha.2.symm⟩
          · cases h
  · rintro ⟨h1, h2, h3, rfl⟩
    have hb := bytes_lt h1 h2.session h2.user
    unfold readF
    rw [show (tokenOf m v).findIdx? (· == 46) = some (enc (claimsBytesT v)).length from find_tok _ _]
    simp only [show (tokenOf m v).take (enc (claimsBytesT v)).length = enc (claimsBytesT v) from tok_ahead _ _]
    rw [(dec_enc _ hb).1, (dec_enc _ hb).2]
    simp only [Option.isSome_none, Bool.false_eq_true, if_false]
    rw [(claimsOf_iff hb v).2 ⟨h1, rfl⟩]
    simp only [h3, and_self, if_true]
end TokenMath
namespace Go.Proofs.YtajhegjemhegiaaDoor
open Go.RowKit

/-- The ints 'zs' stand from the address 'pp' on. -/
def Ints (w : World) (pp : Option Addr) (zs : List Int) : Prop := ∀ (i : Nat) (z : Int), zs[i]? = some z → (-9223372036854775808 ≤ z ∧ z ≤ 9223372036854775807) ∧ ∃ b off, pp = some ⟨b, off, none⟩ ∧ w.cell? ⟨b, off + i, none⟩ = some (.int .i64 z)
theorem Ints.grown {w w' : World} {pp : Option Addr} {zs : List Int} (h : Ints w pp zs) (hb : Below w.heap.size w w') : Ints w' pp zs := fun i z hz => by
  obtain ⟨hr, b, off, hp, hc⟩ := h i z hz
  refine ⟨hr, b, off, hp, ?_⟩
  have hl : b < w.heap.size := by
    rcases Nat.lt_or_ge b w.heap.size with g | g
    · exact g
    · simp [World.cell?, Array.getElem?_eq_none g] at hc
  exact (hb.cell (p := ⟨b, off + i, none⟩) hl).trans hc
theorem Ints.drewN {w : World} {pp : Option Addr} {zs : List Int} (n : Nat) (h : Ints w pp zs) : Ints { w with drawn := w.drawn + n } pp zs := h
end Go.Proofs.YtajhegjemhegiaaDoor
namespace Go.Proofs.YtajhegjemhegiaaDoor
open Go.RowKit

/-- Bytes, as values. -/
def byteVals (zs : List Nat) : List Value := zs.map fun (z : Nat) => Value.int .u8 (z : Int)
theorem byteVals_len (zs : List Nat) : (byteVals zs).length = zs.length := by simp [byteVals]
theorem byteVals_at (zs : List Nat) (i : Nat) : (byteVals zs)[i]? = zs[i]?.map fun (z : Nat) => Value.int .u8 (z : Int) := by simp [byteVals]
theorem byteVals_set (zs : List Nat) (i z : Nat) : (byteVals zs).set i (.int .u8 (z : Int)) = byteVals (zs.set i z) := by simp [byteVals, List.map_set]
theorem byteVals_one (zs : List Nat) : ∀ u ∈ byteVals zs, u.oneCell' = true := by
  intro u hu
  obtain ⟨z, _, rfl⟩ := List.mem_map.1 hu
  rfl
/-- The cells that a slice of bytes came in with are these values. -/
theorem Bytes.news {w : World} {b off : Nat} {zs : List Nat} (h : Bytes w (some ⟨b, off, none⟩) zs) : ∀ j u, (byteVals zs)[j]? = some u → w.cell? ((⟨b, off, none⟩ : Addr).add j) = some u := by
  intro j u hu
  rw [byteVals_at] at hu
  obtain ⟨z, hz, rfl⟩ := Option.map_eq_some_iff.1 hu
  obtain ⟨_, b', off', hp, hc⟩ := h j z hz
  simp only [Option.some.injEq, Addr.mk.injEq] at hp
  obtain ⟨rfl, rfl, _⟩ := hp
  rw [WideShapes.add_plain]
  exact hc
/-- A row that is owned, of at least one byte. -/
theorem bytes_of_own {zs : List Nat} {base n : Nat} {v : Value} {e : TypeId} {w : World} (h : w.ownsRow base e 1 v n (byteVals zs)) (hn : n = zs.length) (hz : ∀ i z : Nat, zs[i]? = some z → z < 256) (h0 : 0 < n) :
    ∃ G cap, v = .slice (some ⟨G, 0, none⟩) n cap ∧ base ≤ G ∧ G < w.heap.size ∧ (∀ j, w.frozen? ⟨G, j, none⟩ = false) ∧ Bytes w (some ⟨G, 0, none⟩) zs := by
  rcases h.2 with ⟨_, h1⟩ | ⟨G, cap, cur, rfl, hG, hh, _⟩
  · omega
  · refine ⟨G, cap, rfl, hG, (h.lt G rfl).2, fun j => h.frozenAt j, fun i z hi => ⟨hz i z hi, G, 0, rfl, ?_⟩⟩
    have hlt : i < n := by rw [hn]; exact (List.getElem?_eq_some_iff.1 hi).1
    rw [Nat.zero_add, h.cellAt i (by omega), byteVals_at, hi]
    rfl
end Go.Proofs.YtajhegjemhegiaaDoor
