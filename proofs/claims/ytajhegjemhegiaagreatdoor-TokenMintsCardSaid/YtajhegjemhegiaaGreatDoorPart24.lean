/-
  Texts of one claim, merged.
  RefClaimsBytes: The contract of the document's own ClaimsBytes of chapter 5: what is written of claims' six things. The conditions: the vector's cells; two texts of at most 100,000 bytes, a vector of at most 1,000,000.
  WireThings: Plain mathematics of chapter 5: things' bytes by their kinds, and what things come to. No program, no conditions but those typed.
  WireWritten: Plain mathematics of chapter 5: what the document writes of a right write's things, and of right claims', is what it has. No program, no conditions but those typed.
-/
import Derived.Test.YtajhegjemhegiaaGreatDoorPart23
import Derived.Test.YtajhegjemhegiaaGreatDoorPart15
import Derived.Test.YtajhegjemhegiaaGreatDoorPart11
import Derived.Test.YtajhegjemhegiaaGreatDoorPart18
namespace Go.Proofs.YtajhegjemhegiaaGreatDoor
open Go.RowKit TextNat

/-- Claims' things. -/
def ClaimsV.items (x : ClaimsV) : List Item := [textItem x.session, textItem x.user, numItem x.epoch, numItem x.issue, numItem x.key, vecItem x.cp x.cl x.cc]

set_option maxRecDepth 100000 in
set_option maxHeartbeats 4000000 in
theorem refClaimsBytes (x : ClaimsV) (w : World) (hz : Ints w x.cp x.cl) (hs : x.session.size ≤ 100000 ∧ x.user.size ≤ 100000) (hl : x.cl.length ≤ 1000000) :
    Calls Tryz.prog 26 #[x.val] w fun e w' => e = .returned (.string (putText (WireMath.written (x.items.map Item.thing)))) ∧ Below w.heap.size w w' := by
  obtain ⟨session, user, epoch, issue, key, cp, cl, cc⟩ := x
  simp only [ClaimsV.val] at *
  go_enter Tryz.func26, Tryz.ntmps26
  go_wp2_with fail
  refine (refWritten (ClaimsV.items ⟨session, user, epoch, issue, key, cp, cl, cc⟩) _ 6 _ ?hI ?hlt ?hs ?hn).mono ?_
  case hI =>
    refine itemsAt_of (T := 96) ?_ ?_
    · simp only [ClaimsV.items, List.flatMap_cons, List.flatMap_nil, Item.cells, numItem, textItem, vecItem, List.cons_append, List.nil_append, List.length_nil]
      exact heap_two w _ _
    · intro y hy
      simp only [ClaimsV.items, List.mem_cons, List.not_mem_nil, or_false] at hy
      rcases hy with rfl | rfl | rfl | rfl | rfl | rfl <;> first
        | exact ints_none _
        | exact hz.grown (below_two w _ _)
  case hlt => simp
  case hs =>
    intro y hy
    simp only [ClaimsV.items, List.mem_cons, List.not_mem_nil, or_false] at hy
    rcases hy with rfl | rfl | rfl | rfl | rfl | rfl <;> refine ⟨?_, ?_⟩ <;> first
      | exact hs.1
      | exact hs.2
      | exact hl
      | exact Nat.zero_le _
  case hn => simp [ClaimsV.items]
  rintro e w2 ⟨rfl, hb2⟩
  cases hp : WireMath.written ((ClaimsV.items ⟨session, user, epoch, issue, key, cp, cl, cc⟩).map Item.thing) with
  | mk out bad =>
    cases bad with
    | none =>
      unfold putValue
      simp only
      go_wp2_with fail
      go_ret
      rw [hp]
      exact ⟨rfl, (below_two w _ _).trans (hb2.mono (below_two w _ _).size)⟩
    | some q =>
      obtain ⟨c, at'⟩ := q
      unfold putValue
      simp only
      go_wp2_with fail
      go_ret
      rw [hp]
      exact ⟨rfl, (below_two w _ _).trans (hb2.mono (below_two w _ _).size)⟩
end Go.Proofs.YtajhegjemhegiaaGreatDoor
namespace WireMath

theorem written_on : ∀ (l : List Thing) (bs : List (List Nat)) (p : Put), p.bad = none → l.map bytes = bs.map some → p.out.length + bs.flatten.length ≤ 65536 → l.foldl put p = ⟨p.out ++ bs.flatten, none⟩
  | [], [], p, h, _, _ => by obtain ⟨o, b⟩ := p; cases h; simp
  | [], b :: r, _, _, h, _ => by simp at h
  | x :: l, [], _, _, h, _ => by simp at h
  | x :: l, b :: r, p, h, hm, hl => by
    simp only [List.map_cons, List.cons.injEq] at hm
    simp only [List.flatten_cons, List.length_append] at hl
    have hp : put p x = ⟨p.out ++ b, none⟩ := by
      unfold put
      rw [h, hm.1]
      simp only
      rw [if_neg (by omega)]
    rw [List.foldl_cons, hp, written_on l r ⟨p.out ++ b, none⟩ rfl hm.2 (by simp only [List.length_append]; omega)]
    simp
theorem written_all {l : List Thing} {bs : List (List Nat)} (h : l.map bytes = bs.map some) (hl : bs.flatten.length ≤ 65536) : written l = ⟨bs.flatten, none⟩ := by
  exact written_on l bs ⟨[], none⟩ rfl h (by show 0 + _ ≤ _; omega)
theorem trimmed_top {v : List Int} (h : trimmed v big = true) : trimmed v top = true := by
  unfold trimmed big at h
  unfold trimmed top
  simp only [Bool.and_eq_true, decide_eq_true_eq, List.all_eq_true] at h ⊢
  refine ⟨⟨h.1.1, fun z hz => ⟨(h.1.2 z hz).1, ?_⟩⟩, h.2⟩
  have := (h.1.2 z hz).2
  omega
theorem bytes_k0 {x : Thing} (h : x.k = 0) (h0 : 0 ≤ x.n) (h1 : x.n ≤ top) : bytes x = some (num x.n.toNat) := by
  unfold bytes
  rw [h, if_neg (by decide), if_neg (by decide), if_neg (by decide), if_pos ⟨h0, h1⟩]
theorem bytes_k1 {x : Thing} (h : x.k = 1) : bytes x = some (textBytes x.s) := by
  unfold bytes
  rw [h, if_pos rfl]
  rfl
theorem bytes_k2 {x : Thing} (h : x.k = 2) : bytes x = some (flagBytes x.b) := by
  unfold bytes
  rw [h, if_neg (by decide), if_pos rfl]
  rfl
theorem bytes_k3 {x : Thing} (h : x.k = 3) (hv : trimmed x.v top = true) : bytes x = some (vecBytes x.v) := by
  unfold bytes
  rw [h, if_neg (by decide), if_neg (by decide), if_pos rfl, if_pos hv]
end WireMath
namespace Go.Proofs.YtajhegjemhegiaaGreatDoor
open TextNat

theorem bytes_num {n : Int} (h0 : 0 ≤ n) (h1 : n ≤ 1099511627776) : WireMath.bytes (numItem n).thing = some (WireMath.num n.toNat) := WireMath.bytes_k0 rfl h0 (by show n ≤ _; unfold WireMath.top; omega)
theorem bytes_text (s : ByteArray) : WireMath.bytes (textItem s).thing = some (WireMath.textBytes (nats s)) := WireMath.bytes_k1 rfl
theorem bytes_flag (b : Bool) : WireMath.bytes (flagItem b).thing = some (WireMath.flagBytes b) := WireMath.bytes_k2 rfl
theorem bytes_vec {p : Option Addr} {l : List Int} {c : Nat} (h : WireMath.trimmed l WireMath.big = true) : WireMath.bytes (vecItem p l c).thing = some (WireMath.vecBytesN (l.map Int.toNat)) := by
  rw [WireMath.bytes_k3 rfl (WireMath.trimmed_top h)]
  unfold WireMath.vecBytes WireMath.vecBytesN WireMath.countsBytes
  rw [List.length_map, List.flatMap_map]
  rfl
theorem written_write {x : WriteV} (h : RightIs x) : WireMath.written (x.items.map Item.thing) = ⟨WireMath.writeBytesT x.t, none⟩ := by
  have hs := WireMath.write_small (right_t h)
  obtain ⟨h1, h2, h3, h4, h5, h6, h7, h8, h9, h10⟩ := h
  have hf : WireMath.writeBytesT x.t = [WireMath.num x.region.toNat, WireMath.num x.number.toNat, WireMath.num x.time.toNat, WireMath.vecBytesN (x.dl.map Int.toNat), WireMath.textBytes (nats x.session), WireMath.textBytes (nats x.key), WireMath.flagBytes x.gone, WireMath.textBytes (nats x.value), WireMath.num x.life.toNat].flatten := by
    simp only [WireMath.writeBytesT, WriteV.t, List.flatten_cons, List.flatten_nil, List.append_nil]
  rw [hf] at hs ⊢
  refine WireMath.written_all ?_ (by omega)
  simp only [WriteV.items, List.map_cons, List.map_nil]
  rw [bytes_num (by omega) (by omega), bytes_num (by omega) (by omega), bytes_num (by omega) (by omega), bytes_vec h5, bytes_text, bytes_text, bytes_flag, bytes_text, bytes_num (by omega) (by omega)]
theorem written_claims {x : ClaimsV} (h : RightIsC x) : WireMath.written (x.items.map Item.thing) = ⟨WireMath.claimsBytesT x.t, none⟩ := by
  have hs := WireMath.claims_small (rightC_t h)
  obtain ⟨h1, h2, h3, h4, h5, h6⟩ := h
  have hf : WireMath.claimsBytesT x.t = [WireMath.textBytes (nats x.session), WireMath.textBytes (nats x.user), WireMath.num x.epoch.toNat, WireMath.num x.issue.toNat, WireMath.num x.key.toNat, WireMath.vecBytesN (x.cl.map Int.toNat)].flatten := by
    simp only [WireMath.claimsBytesT, ClaimsV.t, List.flatten_cons, List.flatten_nil, List.append_nil]
  rw [hf] at hs ⊢
  refine WireMath.written_all ?_ (by omega)
  simp only [ClaimsV.items, List.map_cons, List.map_nil]
  rw [bytes_text, bytes_text, bytes_num (by omega) (by omega), bytes_num (by omega) (by omega), bytes_num (by omega) (by omega), bytes_vec (by assumption)]
theorem putText_none (l : List Nat) : putText ⟨l, none⟩ = txt l := rfl
end Go.Proofs.YtajhegjemhegiaaGreatDoor
