/-
  Texts of one claim, merged.
  RefOctets: The contracts of the document's own octet, Octets, Token, Trim of chapter 4. The condition: texts of at most 20,000 bytes.
  CookieRefParse: The document's Parse of chapter 13, its machine walked. The condition: a text of at most 1,000,000 bytes.
-/
import Derived.Test.YtaniekpkcihpiaaDoorProg
import Derived.Test.YtaniekpkcihpiaaDoorPart11
import Derived.WalkKit
import Derived.Handy
import Derived.Outline
import Derived.Lib.Hide
import Derived.Deep.LoopGhost
import Derived.Deep.RegionWith
import Derived.Lib.Strings
import Derived.Test.YtaniekpkcihpiaaDoorPart08
namespace Go.Proofs.YtaniekpkcihpiaaDoor
open Go.RowKit TextNat

/-- A byte's bounds. -/
theorem refOctet (c : Nat) (w : World) (hc : c < 256) : Calls Tryd.prog 33 #[.int .u8 (c : Int)] w fun e w' => e = .returned (.bool (TextMath.octet c)) ∧ w' = w := by
  go_enter Tryd.func33, Tryd.ntmps33
  go_wp2
  all_goals
    go_ret
    refine ⟨?_, rfl⟩
    show Ending.returned (Value.bool _) = Ending.returned (Value.bool _)
    congr 2
    unfold TextMath.octet
    rw [Bool.eq_iff_iff]
    simp
    omega


set_option maxHeartbeats 2000000 in
theorem refOctets (s : ByteArray) (w : World) (hs : s.size ≤ 20000) : Calls Tryd.prog 23 #[.string s] w fun e w' => e = .returned (.bool ((nats s).all TextMath.octet)) ∧ w' = w := by
  go_enter Tryd.func23, Tryd.ntmps23
  go_wp2
  go_loopg [3] s.size (fun gh s3 wx => ∃ i : Nat, i + gh = s.size ∧ s3 = .int .i64 (i : Int) ∧ Hid (((nats s).take i).all TextMath.octet = true) ∧ wx = w)
  case atStart => exact ⟨0, by omega, by go_num, Lib.hid rfl, rfl⟩
  case round =>
    obtain ⟨i, hi, rfl, hn, rfl⟩ := hrel
    by_cases hlt : i < s.size
    · have t1 : decide ((i : Int) < (s.size : Int)) = true := decide_eq_true (by omega)
      have t1' : decide (i < s.size) = true := decide_eq_true hlt
      obtain ⟨z, hz⟩ : ∃ z, z = (s[i]'hlt).toNat := ⟨_, rfl⟩
      have hx : ((s[i]'hlt).toNat : Int) = (z : Int) := by rw [hz]
      have hzl : z < 256 := by rw [hz]; exact UInt8.toNat_lt _
      have hzi : (nats s)[i]? = some z := by rw [hz]; exact nats_at s i hlt
      have HO := Lib.hid (refOctet z wr hzl)
      cases ho : TextMath.octet z
      · have HF := Lib.hid (all_false hzi ho)
        rw [ho] at HO
        clear hn hz hzi ho
        go_wp2_with (go_at_call 33; refine HO.out.mono ?_; rintro e w2 ⟨rfl, rfl⟩)
        go_ret
        exact ⟨by rw [HF.out]; rfl, rfl⟩
      · have HN := Lib.hid (all_step hzi hn.out ho)
        rw [ho] at HO
        clear hn hz hzi ho
        go_wp2_with (go_at_call 33; refine HO.out.mono ?_; rintro e w2 ⟨rfl, rfl⟩)
        go_roundg (s.size - (i + 1))
        case measure => omega
        case rel => exact ⟨i + 1, by omega, by go_num, HN, rfl⟩
    · obtain rfl : i = s.size := by omega
      have HF := Lib.hid (show (nats s).all TextMath.octet = true by rw [← hn.out, List.take_of_length_le (by rw [nats_len]; exact Nat.le_refl _)])
      have t1 : decide (s.size < s.size) = false := decide_eq_false (by omega)
      clear hn
      go_wp2
      go_ret
      exact ⟨by rw [HF.out]; rfl, rfl⟩


set_option maxRecDepth 100000 in
set_option maxHeartbeats 4000000 in
theorem refToken (s : ByteArray) (w : World) (hs : s.size ≤ 20000) : Calls Tryd.prog 22 #[.string s] w fun e w' => e = .returned (.bool (TextMath.token (nats s))) ∧ w' = w := by
  go_enter Tryd.func22, Tryd.ntmps22
  go_wp2
  go_loopg [3] s.size (fun gh s3 wx => ∃ i : Nat, i + gh = s.size ∧ s3 = .int .i64 (i : Int) ∧ Hid (((nats s).take i).all TextMath.tokenOctet = true) ∧ wx = w)
  case atStart => exact ⟨0, by omega, by go_num, Lib.hid rfl, rfl⟩
  case round =>
    obtain ⟨i, hi, rfl, hn, rfl⟩ := hrel
    by_cases hlt : i < s.size
    · have t1 : decide ((i : Int) < (s.size : Int)) = true := decide_eq_true (by omega)
      have t1' : decide (i < s.size) = true := decide_eq_true hlt
      obtain ⟨z, hz⟩ : ∃ z, z = (s[i]'hlt).toNat := ⟨_, rfl⟩
      have hx : ((s[i]'hlt).toNat : Int) = (z : Int) := by rw [hz]
      have hzl : z < 256 := by rw [hz]; exact UInt8.toNat_lt _
      have hzi : (nats s)[i]? = some z := by rw [hz]; exact nats_at s i hlt
      have HN0 := Lib.hid (fun h => all_step hzi hn.out h)
      have HF0 := Lib.hid (fun h => all_false (p := TextMath.tokenOctet) hzi h)
      clear hn hz hzi
      go_wp2
      all_goals
        obtain ⟨w2, hw2⟩ : ∃ w2, w2 = wr := ⟨_, rfl⟩
        subst hw2
        go_loopg [5, 6] 15 (fun gh s5 s6 wx => ∃ (k : Nat) (b : Bool), k + gh = 15 ∧ s6 = .int .i64 (k : Int) ∧ s5 = .bool b ∧ Hid (b = (baseOctet z || (TextMath.signs.take k).contains z)) ∧ wx = w2)
        case atStart => exact ⟨0, baseOctet z, rfl, by go_num, by (congr 1; unfold baseOctet; rw [Bool.eq_iff_iff]; simp; omega), Lib.hid (by simp), rfl⟩
        case round =>
          obtain ⟨k, b, hk, rfl, rfl, hb, rfl⟩ := hrel
          by_cases hk15 : k < 15
          · have t2 : decide ((k : Int) < 15) = true := decide_eq_true (by omega)
            have t2' : decide (k < 15) = true := decide_eq_true hk15
            have k0 : 0 ≤ (k : Int) := by omega
            have k15 : (k : Int) < 15 := by omega
            obtain ⟨y, hy⟩ : ∃ y, y = TextMath.signs.getD k 0 := ⟨_, rfl⟩
            have hsz : k < (⟨#[33, 35, 36, 37, 38, 39, 42, 43, 45, 46, 94, 95, 96, 124, 126]⟩ : ByteArray).size := hk15
            have hyx : (((⟨#[33, 35, 36, 37, 38, 39, 42, 43, 45, 46, 94, 95, 96, 124, 126]⟩ : ByteArray)[k]'hsz).toNat : Int) = (y : Int) := by rw [sign_at k hsz, hy]
            have hT := take_contains TextMath.signs k z hk15
            rw [← hy] at hT
            cases b
            · have HN := Lib.hid (show (z == y) = (baseOctet z || (TextMath.signs.take (k + 1)).contains z) by
                rw [hT, ← Bool.or_assoc, ← hb.out, Bool.false_or])
              have hzy : ((z : Int) == (y : Int)) = (z == y) := by
                rw [Bool.eq_iff_iff]; simp; omega
              clear hb hT hy
              go_wp2
              go_roundg (15 - (k + 1))
              case measure => omega
              case rel => exact ⟨k + 1, (z == y), by omega, by go_num, rfl, HN, rfl⟩
            · have HN := Lib.hid (show true = (baseOctet z || (TextMath.signs.take (k + 1)).contains z) by
                rw [hT, ← Bool.or_assoc, ← hb.out, Bool.true_or])
              clear hb hT hy
              go_wp2
              go_roundg (15 - (k + 1))
              case measure => omega
              case rel => exact ⟨k + 1, true, by omega, by go_num, rfl, HN, rfl⟩
          · obtain rfl : k = 15 := by omega
            have hB : b = TextMath.tokenOctet z := hb.out
            cases b
            · have HF := Lib.hid (HF0.out hB.symm)
              clear hb hB
              go_wp2
              go_ret
              exact ⟨by unfold TextMath.token; rw [HF.out]; rfl, rfl⟩
            · have HN := Lib.hid (HN0.out hB.symm)
              clear hb hB
              go_wp2
              go_roundg (s.size - (i + 1))
              case measure => omega
              case rel => exact ⟨i + 1, by omega, by go_num, HN, rfl⟩
    · obtain rfl : i = s.size := by omega
      have t1 : decide (s.size < s.size) = false := decide_eq_false (by omega)
      have HF := Lib.hid (show TextMath.token (nats s) = decide (0 < s.size) by
        have h : (nats s).all TextMath.tokenOctet = true := by rw [← hn.out, List.take_of_length_le (by rw [nats_len]; exact Nat.le_refl _)]
        unfold TextMath.token
        rw [h, Bool.true_and]
        have hl := nats_len s
        cases hq : nats s with
        | nil => rw [hq] at hl; simp at hl; simp [← hl]
        | cons a r => rw [hq] at hl; simp at hl; simp; omega)
      clear hn
      go_wp2
      go_ret
      exact ⟨by rw [HF.out]; simp, rfl⟩


end Go.Proofs.YtaniekpkcihpiaaDoor
namespace Go.Proofs.YtaniekpkcihpiaaDoor
open Go.RowKit TextNat CookieMath

/-- What the document's Parse answers. -/
def RefParseIs (w : World) (s : ByteArray) (e : Ending) : Prop :=
  match parse (nats s) with
  | .inl l => ∃ pp cap, e = .returned (.tuple #[.slice pp l.length cap, .int .i64 (-1)]) ∧ l.length ≤ cap ∧ cap ≤ 9223372036854775807 ∧ PairsIn w pp (l.map pairB)
  | .inr i => e = .returned (.tuple #[.slice none 0 0, .int .i64 (i : Int)])
theorem ck_extract (s : ByteArray) (a e : Nat) : nats (s.extract a e) = ((nats s).take e).drop a := text_extract s a e
theorem ck_one (s : ByteArray) {i z : Nat} (hz : (nats s)[i]? = some z) : nats (s.extract i (i + 1)) = [z] := by
  rw [ck_extract]
  have hi := (List.getElem?_eq_some_iff.1 hz).1
  rw [List.take_add_one, hz, List.drop_append_of_le_length (by rw [List.length_take]; omega), List.drop_eq_nil_of_le (by rw [List.length_take]; omega)]
  rfl
theorem ck_grow {l : List Nat} {f i z : Nat} (hf : f ≤ i) (hz : l[i]? = some z) : (l.take (i + 1)).drop f = (l.take i).drop f ++ [z] := by
  have hi := (List.getElem?_eq_some_iff.1 hz).1
  rw [List.take_add_one, hz, List.drop_append_of_le_length (by rw [List.length_take]; omega)]
  rfl
theorem ck_drop {l : List Nat} {i z : Nat} (hz : l[i]? = some z) : l.drop i = z :: l.drop (i + 1) := by
  have hi := (List.getElem?_eq_some_iff.1 hz).1
  rw [List.drop_eq_getElem_cons hi]
  congr 1
  have := List.getElem?_eq_getElem hi
  rw [hz] at this
  exact (Option.some.inj this).symm
theorem ck_nil {l : List Nat} {f i : Nat} (hi : i ≤ l.length) (hf : f ≤ i) : (l.take i).drop f = [] ↔ i = f := by
  constructor
  · intro h
    have := congrArg List.length h
    rw [List.length_drop, List.length_take] at this
    simp only [List.length_nil] at this
    omega
  · intro h
    rw [h, List.drop_eq_nil_of_le (by rw [List.length_take]; omega)]
theorem below_at13 {B g : Nat} {a w : World} (h : Below B a w) (hg : B ≤ g) (j : Nat) (v : Value) : Below B a (w.setCell ⟨g, j, none⟩ v) :=
  ⟨h.os, h.tape, h.output, by have := h.size; simpa [World.setCell] using this, fun k hk => (Below.heap_setCell _ _ _ _ (by show k ≠ g; omega)).trans (h.block k hk)⟩
theorem toList_data (s : ByteArray) : s.toList = s.data.toList := ByteArray.toList_eq s
theorem text_one {s : ByteArray} {z : Nat} (h : nats s = [z]) (c : UInt8) : (s.toList == [c]) = decide (z = c.toNat) := by
  rw [toList_data]
  unfold nats at h
  obtain ⟨x, hx, hz⟩ : ∃ x, s.data.toList = [x] ∧ x.toNat = z := by
    match hl : s.data.toList, h with
    | [x], h => exact ⟨x, rfl, by simpa [hl] using h⟩
  rw [hx, ← hz]
  by_cases hc : x = c
  · subst hc
    simp
  · rw [decide_eq_false (fun h => hc (UInt8.toNat_inj.1 h)), beq_eq_false_iff_ne]
    intro h
    exact hc (by simpa using h)
theorem map_pairB (A : List PairV) : (A.map PairV.n).map pairB = A := by
  rw [List.map_map]
  conv => rhs; rw [← List.map_id A]
  exact List.map_congr_left fun p _ => pairB_n p
/-- Where the machine is. -/
inductive Spot (l : List Nat) (i f : Nat) (n0 : ByteArray) : Nat → List Nat → List Nat → Prop
  | name (name : List Nat) : f ≤ i → Spot l i f n0 0 ((l.take i).drop f) name
  | value : f ≤ i → Spot l i f n0 1 ((l.take i).drop f) (nats n0)
  | blank : Spot l i f n0 2 [] []
set_option maxRecDepth 100000 in
set_option maxHeartbeats 16000000 in
theorem refParse13 (s : ByteArray) (w : World) (hs : s.size ≤ 1000000) :
    Calls Tryd.prog 8 #[.string s] w fun e w' => RefParseIs w' s e ∧ Below w.heap.size w w' := by
  obtain ⟨N, hN⟩ : ∃ N, N = s.size := ⟨_, rfl⟩
  have e1 : (s.size : Int) = (N : Int) := by omega
  obtain ⟨l, hl⟩ : ∃ l, l = nats s := ⟨_, rfl⟩
  have HLl := Lib.hid (show l.length = N by rw [hl, nats_len, hN])
  have HL := Lib.hid hl
  have HN := Lib.hid hN
  by_cases h0 : N = 0
  · have HP := Lib.hid (show parse (nats s) = .inl [] by
      rw [show nats s = [] from List.eq_nil_of_length_eq_zero (by rw [nats_len]; omega)]
      rfl)
    subst h0
    clear hN hl hs
    go_enter Tryd.func8, Tryd.ntmps8
    go_wp2
    go_ret2
    refine ⟨?_, (Below.refl _ _).alloc (Nat.le_refl _) _⟩
    unfold RefParseIs
    rw [HP.out]
    exact ⟨_, _, rfl, Nat.le_refl _, by omega, fun i x h => by simp at h⟩
  have hN1 : N ≤ 1000000 := by omega
  have t0 : ((N : Int) == 0) = false := by rw [beq_eq_false_iff_ne]; omega
  have t0' : (N == 0) = false := by rw [beq_eq_false_iff_ne]; omega
  have HPr := Lib.hid (show run 0 [] [] [] l 0 = parse l by
    unfold parse
    rw [if_neg (fun h => by have := HLl.out; rw [h] at this; simp at this; omega)])
  clear hN hl hs h0
  go_enter Tryd.func8, Tryd.ntmps8
  go_wp2
  obtain ⟨pb, hpb⟩ : ∃ pb, pb = w.heap.size + 1 := ⟨_, rfl⟩
  obtain ⟨B, hB⟩ : ∃ B, B = w.heap.size := ⟨_, rfl⟩
  obtain ⟨W, hW⟩ : ∃ W, W = (w.alloc (.cells #[] 36)).alloc (.cells #[.string ⟨#[]⟩, .string ⟨#[]⟩] 36) := ⟨_, rfl⟩
  have hB0 : Below B w W := by rw [hW, hB]; exact ((Below.refl _ _).alloc (Nat.le_refl _) _).alloc (by simp) _
  have hO0 : OwnQ W B (.slice (some ⟨B, 0, none⟩) 0 0) [] := by
    have h1 : (w.alloc (.cells #[] 36)).ownsRow B 36 2 (.slice (some ⟨w.heap.size, 0, none⟩) 0 0) 0 [] := World.ownsRow_made w #[] 0 (by omega) (by unfold maxLen; omega) rfl
    rw [hW]
    have h2 := World.ownsRow.alloc h1 (.cells #[.string ⟨#[]⟩, .string ⟨#[]⟩] 36)
    rw [← hB] at h2
    exact h2
  have hL0 : Lies W pb [.string ⟨#[]⟩, .string ⟨#[]⟩] 36 := by
    rw [hW, hpb]
    have := Lies.new (w.alloc (.cells #[] 36)) [.string ⟨#[]⟩, .string ⟨#[]⟩] 36
    simpa using this
  rw [← hW]
  simp only [← hpb]
  simp only [← hB]
  have hBp : B ≤ pb := by omega
  have hBne : B ≠ pb := by omega
  have HBw := Lib.hid hB
  clear hW hpb hB
  go_loopg [4, 5, 6, 8, 9] N (fun gh s4 s5 s6 s8 s9 wx => ∃ (i st f : Nat) (cur name : List Nat) (out : List PairV) (n0 n1 : ByteArray), i + gh = N ∧ s8 = .int .i64 (i : Int) ∧ s5 = .int .i64 (st : Int) ∧ s6 = .int .i64 (f : Int) ∧ f ≤ 1000001 ∧
    Hid (run st cur name (out.map PairV.n) (l.drop i) i = parse l) ∧ Hid (Spot l i f n0 st cur name) ∧ Hid (out.length ≤ i) ∧ Hid (Lies wx pb [.string n0, .string n1] 36) ∧ Hid (OwnQ wx B s4 out) ∧ Hid (∀ q, s4.ownBlock = some q → q ≠ pb) ∧ Hid (Below B w wx))
  case atStart => exact ⟨0, 0, 0, [], [], [], ⟨#[]⟩, ⟨#[]⟩, by omega, by go_num, by go_num, by go_num, by omega, Lib.hid HPr.out, Lib.hid (.name [] (Nat.le_refl _)), Lib.hid (Nat.le_refl _), Lib.hid hL0, Lib.hid hO0, Lib.hid (fun q hq => by simp [Value.ownBlock] at hq; omega), Lib.hid hB0⟩
  case round =>
    obtain ⟨i, st, f, cur, name, out, n0, n1, hi, rfl, rfl, rfl, hf, HRun, HSp, HOl, HLi, HO, HNe, HB⟩ := hrel
    clear hL0 hO0 hB0 HPr
    by_cases hlt : i < N
    · have t1 : decide ((i : Int) < (N : Int)) = true := decide_eq_true (by omega)
      have t1' : decide (i < N) = true := decide_eq_true hlt
      obtain ⟨z, hz⟩ : ∃ z, l[i]? = some z := ⟨_, List.getElem?_eq_getElem (by rw [HLl.out]; exact hlt)⟩
      have hz' : (nats s)[i]? = some z := by rw [← HL.out]; exact hz
      have hic : i + 1 ≤ N := by omega
      have hic0 : i ≤ i + 1 := by omega
      have k1 : (i : Int) ≤ (i : Int) + 1 := by omega
      have k2 : (i : Int) + 1 ≤ (N : Int) := by omega
      have k3 : (i : Int) + 1 ≤ (s.size : Int) := by omega
      have k4 : ((i : Int) + 1).toNat = i + 1 := by omega
      have k5 : (0 : Int) ≤ (i : Int) + 1 := by omega
      obtain ⟨C, hC⟩ : ∃ C, C = s.extract i (i + 1) := ⟨_, rfl⟩
      have hCn : nats C = [z] := by rw [hC]; exact ck_one s hz'
      have HC := Lib.hid hC
      have hCs : C.size = 1 := by
        have := congrArg List.length hCn
        rw [nats_len] at this
        exact this
      have HT := Lib.hid (fun w1 => show Calls Tryd.prog 22 #[.string C] w1 (fun e w' => e = .returned (.bool (TextMath.tokenOctet z)) ∧ w' = w1) by
        have := refToken C w1 (by omega)
        rw [hCn] at this
        simpa [TextMath.token] using this)
      have HOc := Lib.hid (fun w1 => show Calls Tryd.prog 23 #[.string C] w1 (fun e w' => e = .returned (.bool (TextMath.octet z)) ∧ w' = w1) by
        have := refOctets C w1 (by omega)
        rw [hCn] at this
        simpa using this)
      have HR := Lib.hid (show run st cur name (out.map PairV.n) (z :: l.drop (i + 1)) i = parse l by rw [← ck_drop hz]; exact HRun.out)
      have HZ := Lib.hid hz
      have HCn := Lib.hid hCn
      clear hz hz' hC hCn hCs HRun
      cases HSp.out with
      | name name hfi =>
        cases ht : TextMath.tokenOctet z with
        | true =>
          have HRn := Lib.hid (show run 0 ((l.take (i + 1)).drop f) name (out.map PairV.n) (l.drop (i + 1)) (i + 1) = parse l by rw [← HR.out, run_cons, if_pos rfl, if_pos ht, ck_grow hfi HZ.out])
          have HSn := Lib.hid (Spot.name (l := l) (i := i + 1) (f := f) (n0 := n0) name (by omega))
          rw [ht] at HT
          clear ht hfi HOc
          go_wp2_with fail
          rw [← HC.out]
          refine (HT.out _).mono ?_
          rintro e w2 ⟨rfl, hw⟩; rw [hw]; clear hw
          go_wp2
          go_roundg (N - (i + 1))
          case measure => omega
          case rel => exact ⟨i + 1, 0, f, _, name, out, n0, n1, by omega, by go_num, by go_num, by go_num, by omega, HRn, HSn, Lib.hid (Nat.le_succ_of_le HOl.out), HLi, HO, HNe, HB⟩
        | false =>
          rw [ht] at HT
          have hcq : (C.toList == [61]) = decide (z = 61) := text_one HCn.out 61
          by_cases hz : z = 61
          · rw [decide_eq_true hz] at hcq
            by_cases hif : i = f
            · have HPn := Lib.hid (show parse (nats s) = .inr i by rw [← HL.out, ← HR.out, run_cons, if_pos rfl, if_neg (by rw [ht]; decide), if_pos (.inr ((ck_nil (by rw [HLl.out]; omega) hfi).2 hif))])
              have t2 : ((i : Int) == (f : Int)) = true := by rw [beq_iff_eq]; omega
              have t2' : (i == f) = true := by rw [beq_iff_eq]; exact hif
              clear ht hfi HOc hz hif
              go_wp2_with fail
              rw [← HC.out]
              refine (HT.out _).mono ?_
              rintro e w2 ⟨rfl, hw⟩; rw [hw]; clear hw
              go_wp2
              go_ret2
              exact ⟨by unfold RefParseIs; rw [HPn.out]; rfl, HBw.out ▸ HB.out⟩
            · have HRn := Lib.hid (show run 1 [] ((l.take i).drop f) (out.map PairV.n) (l.drop (i + 1)) (i + 1) = parse l by rw [← HR.out, run_cons, if_pos rfl, if_neg (by rw [ht]; decide), if_neg (by rintro (h | h); exact h hz; exact hif ((ck_nil (by rw [HLl.out]; omega) hfi).1 h))])
              have t2 : ((i : Int) == (f : Int)) = false := by rw [beq_eq_false_iff_ne]; omega
              have t2' : (i == f) = false := by rw [beq_eq_false_iff_ne]; exact hif
              have q1 : f ≤ i := hfi
              have q2 : i ≤ N := by omega
              have HNm := Lib.hid (show nats (s.extract f i) = (l.take i).drop f by rw [ck_extract, ← HL.out])
              have HSn := Lib.hid (show Spot l (i + 1) (i + 1) (s.extract f i) 1 [] ((l.take i).drop f) by
                have := Spot.value (l := l) (i := i + 1) (f := i + 1) (n0 := s.extract f i) (Nat.le_refl _)
                rw [HNm.out, List.drop_eq_nil_of_le (by rw [List.length_take]; omega)] at this
                exact this)
              have cf := HLi.out.free 0
              have cc := HLi.out.cell (i := 0) rfl
              have HL2 := Lib.hid (HLi.out.set 0 (.string (s.extract f i)))
              have HO2 := Lib.hid (HO.out.but (But.set pb 0 wr (.string (s.extract f i))) HNe.out)
              have HB2 := Lib.hid (below_at13 HB.out hBp 0 (.string (s.extract f i)))
              clear ht hfi HOc hz hif
              go_wp2_with fail
              rw [← HC.out]
              refine (HT.out _).mono ?_
              rintro e w2 ⟨rfl, hw⟩; rw [hw]; clear hw
              go_wp2
              go_roundg (N - (i + 1))
              case measure => omega
              case rel => exact ⟨i + 1, 1, i + 1, [], _, out, _, n1, by omega, by go_num, by go_num, by go_num, by omega, HRn, HSn, Lib.hid (Nat.le_succ_of_le HOl.out), HL2, HO2, HNe, HB2⟩
          · rw [decide_eq_false hz] at hcq
            have HPn := Lib.hid (show parse (nats s) = .inr i by rw [← HL.out, ← HR.out, run_cons, if_pos rfl, if_neg (by rw [ht]; decide), if_pos (.inl hz)])
            clear ht hfi HOc hz
            go_wp2_with fail
            rw [← HC.out]
            refine (HT.out _).mono ?_
            rintro e w2 ⟨rfl, hw⟩; rw [hw]; clear hw
            go_wp2
            go_ret2
            exact ⟨by unfold RefParseIs; rw [HPn.out]; rfl, HBw.out ▸ HB.out⟩
      | value hfi =>
        cases ht : TextMath.octet z with
        | true =>
          have HRn := Lib.hid (show run 1 ((l.take (i + 1)).drop f) (nats n0) (out.map PairV.n) (l.drop (i + 1)) (i + 1) = parse l by rw [← HR.out, run_cons, if_neg (by decide), if_pos rfl, if_pos ht, ck_grow hfi HZ.out])
          have HSn := Lib.hid (Spot.value (l := l) (i := i + 1) (f := f) (n0 := n0) (by omega))
          rw [ht] at HOc
          clear ht hfi HT
          go_wp2_with fail
          rw [← HC.out]
          refine (HOc.out _).mono ?_
          rintro e w2 ⟨rfl, hw⟩; rw [hw]; clear hw
          go_wp2
          go_roundg (N - (i + 1))
          case measure => omega
          case rel => exact ⟨i + 1, 1, f, _, _, out, n0, n1, by omega, by go_num, by go_num, by go_num, by omega, HRn, HSn, Lib.hid (Nat.le_succ_of_le HOl.out), HLi, HO, HNe, HB⟩
        | false =>
          rw [ht] at HOc
          have hcq : (C.toList == [59]) = decide (z = 59) := text_one HCn.out 59
          by_cases hz : z = 59
          · rw [decide_eq_true hz] at hcq
            have q1 : f ≤ i := hfi
            have q2 : i ≤ N := by omega
            have HNm := Lib.hid (show nats (s.extract f i) = (l.take i).drop f by rw [ck_extract, ← HL.out])
            have HRn := Lib.hid (show run 2 [] [] ((out ++ [(n0, (s.extract f i))]).map PairV.n) (l.drop (i + 1)) (i + 1) = parse l by rw [← HR.out, run_cons, if_neg (by decide), if_pos rfl, if_neg (by rw [ht]; decide), if_neg (fun h => h hz), List.map_append]; show run 2 [] [] (out.map PairV.n ++ [(nats n0, nats (s.extract f i))]) _ _ = _; rw [HNm.out])
            have HSn := Lib.hid (Spot.blank (l := l) (i := i + 1) (f := f) (n0 := n0))
            have cf := HLi.out.free 1
            have cc := HLi.out.cell (i := 1) rfl
            have l2 := HLi.out.set 1 (.string (s.extract f i))
            have d0 := l2.cell (i := 0) rfl
            have d1 := l2.cell (i := 1) rfl
            have hs2 : (wr.setCell ⟨pb, 1, none⟩ (.string (s.extract f i))).heap.size = wr.heap.size := by simp [World.setCell]
            have b3 : Below (wr.setCell ⟨pb, 1, none⟩ (.string (s.extract f i))).heap.size (wr.setCell ⟨pb, 1, none⟩ (.string (s.extract f i))) ((wr.setCell ⟨pb, 1, none⟩ (.string (s.extract f i))).alloc (.cells #[.string n0, .string (s.extract f i)] 36)) := (Below.refl _ _).alloc (Nat.le_refl _) _
            have HL3 := Lib.hid (l2.below b3)
            have HO3 := Lib.hid (OwnQ.below (HO.out.but (But.set pb 1 wr (.string (s.extract f i))) HNe.out) b3)
            have HPI := Lib.hid (show PairsIn ((wr.setCell ⟨pb, 1, none⟩ (.string (s.extract f i))).alloc (.cells #[.string n0, .string (s.extract f i)] 36)) (some ⟨wr.heap.size, 0, none⟩) [(n0, (s.extract f i))] from fun k y hy => by
              have hk : k = 0 := by have := (List.getElem?_eq_some_iff.1 hy).1; simp at this; exact this
              subst hk
              obtain rfl : (n0, (s.extract f i)) = y := by simpa using hy
              have hn := Lies.new (wr.setCell ⟨pb, 1, none⟩ (.string (s.extract f i))) [.string n0, .string (s.extract f i)] 36
              rw [hs2] at hn
              exact ⟨_, _, rfl, hn.cell (i := 0) rfl, hn.cell (i := 1) rfl⟩)
            have HB3 := Lib.hid ((below_at13 HB.out hBp 1 (.string (s.extract f i))).trans (b3.mono (by rw [hs2]; have := HB.out.size; have := HBw.out; omega)))
            have HS3 := Lib.hid (show ((wr.setCell ⟨pb, 1, none⟩ (.string (s.extract f i))).alloc (.cells #[.string n0, .string (s.extract f i)] 36)).heap.size = wr.heap.size + 1 by simp [World.setCell])
            clear ht hfi HT hz l2 b3 hs2
            go_wp2_with fail
            rw [← HC.out]
            refine (HOc.out _).mono ?_
            rintro e w2 ⟨rfl, hw⟩; rw [hw]; clear hw
            go_wp2_with (at_builtin; refine app_pairs rfl _ _ rfl B _ out [(n0, (s.extract f i))] rfl HO3.out wr.heap.size 0 1 rfl HPI.out (by have := HOl.out; show out.length + 1 ≤ 2000000; omega) (by rw [HS3.out]; have := HB.out.size; have := HBw.out; omega) ?_; intro v4 w4 h1 h2 h3 h4; have HL4 := Lib.hid ((h3.block pb HL3.out.lt (fun e => HNe.out pb e.symm rfl)).trans HL3.out); have HO4 := Lib.hid h1; have HNe4 := Lib.hid (show ∀ q, v4.ownBlock = some q → q ≠ pb from fun q hq => by rcases h4 q hq with h5 | h5; exact HNe.out q h5; have := HLi.out.lt; rw [HS3.out] at h5; omega); have HB4 := Lib.hid (HB3.out.trans (h2.mono (by have := HBw.out; omega))); clear h1 h2 h3 h4)
            go_roundg (N - (i + 1))
            case measure => omega
            case rel => exact ⟨i + 1, 2, f, [], [], _, _, _, by omega, by go_num, by go_num, by go_num, by omega, HRn, HSn, Lib.hid (by rw [List.length_append]; exact Nat.succ_le_succ HOl.out), HL4, HO4, HNe4, HB4⟩
          · rw [decide_eq_false hz] at hcq
            have HPn := Lib.hid (show parse (nats s) = .inr i by rw [← HL.out, ← HR.out, run_cons, if_neg (by decide), if_pos rfl, if_neg (by rw [ht]; decide), if_pos hz])
            clear ht hfi HT hz
            go_wp2_with fail
            rw [← HC.out]
            refine (HOc.out _).mono ?_
            rintro e w2 ⟨rfl, hw⟩; rw [hw]; clear hw
            go_wp2
            go_ret2
            exact ⟨by unfold RefParseIs; rw [HPn.out]; rfl, HBw.out ▸ HB.out⟩
      | blank =>
        have hcq : (C.toList == [32]) = decide (z = 32) := text_one HCn.out 32
        rw [HC.out] at hcq
        by_cases hz : z = 32
        · rw [decide_eq_true hz] at hcq
          have HRn := Lib.hid (show run 0 [] [] (out.map PairV.n) (l.drop (i + 1)) (i + 1) = parse l by rw [← HR.out, run_cons, if_neg (by decide), if_neg (by decide), if_neg (fun h => h hz)])
          have HSn := Lib.hid (show Spot l (i + 1) (i + 1) n0 0 [] [] by
            have := Spot.name (l := l) (i := i + 1) (f := i + 1) (n0 := n0) [] (Nat.le_refl _)
            rw [List.drop_eq_nil_of_le (by rw [List.length_take]; omega)] at this
            exact this)
          clear HT HOc hz
          go_wp2
          go_roundg (N - (i + 1))
          case measure => omega
          case rel => exact ⟨i + 1, 0, i + 1, [], [], out, n0, n1, by omega, by go_num, by go_num, by go_num, by omega, HRn, HSn, Lib.hid (Nat.le_succ_of_le HOl.out), HLi, HO, HNe, HB⟩
        · rw [decide_eq_false hz] at hcq
          have HPn := Lib.hid (show parse (nats s) = .inr i by rw [← HL.out, ← HR.out, run_cons, if_neg (by decide), if_neg (by decide), if_pos hz])
          clear HT HOc hz
          go_wp2
          go_ret2
          exact ⟨by unfold RefParseIs; rw [HPn.out]; rfl, HBw.out ▸ HB.out⟩
    · obtain rfl : i = N := by omega
      have t1 : decide ((i : Int) < (i : Int)) = false := decide_eq_false (by omega)
      have t1' : decide (i < i) = false := decide_eq_false (by omega)
      have HR := Lib.hid (show run st cur name (out.map PairV.n) [] i = parse l by
        have := HRun.out
        rw [List.drop_eq_nil_of_le (by rw [HLl.out]; exact Nat.le_refl _)] at this
        exact this)
      clear HRun
      cases HSp.out with
      | name name hfi =>
        have HPn := Lib.hid (show parse (nats s) = .inr i by rw [← HL.out, ← HR.out, run, if_neg (by decide)])
        clear hfi
        go_wp2
        go_ret2
        exact ⟨by unfold RefParseIs; rw [HPn.out]; rfl, HBw.out ▸ HB.out⟩
      | blank =>
        have HPn := Lib.hid (show parse (nats s) = .inr i by rw [← HL.out, ← HR.out, run, if_neg (by decide)])
        go_wp2
        go_ret2
        exact ⟨by unfold RefParseIs; rw [HPn.out]; rfl, HBw.out ▸ HB.out⟩
      | value hfi =>
        have q1 : f ≤ i := hfi
        have cf := HLi.out.free 1
        have cc := HLi.out.cell (i := 1) rfl
        have HNm := Lib.hid (show nats (s.extract f s.size) = (l.take i).drop f by rw [ck_extract, ← HL.out, ← HN.out])
        have HPn := Lib.hid (show parse (nats s) = .inl ((out ++ [(n0, (s.extract f s.size))]).map PairV.n) by rw [← HL.out, ← HR.out, run, if_pos rfl, List.map_append]; show Sum.inl (out.map PairV.n ++ [_]) = Sum.inl (out.map PairV.n ++ [(nats n0, nats (s.extract f s.size))]); rw [HNm.out])
        have l2 := HLi.out.set 1 (.string (s.extract f s.size))
        have d0 := l2.cell (i := 0) rfl
        have d1 := l2.cell (i := 1) rfl
        have hs2 : (wr.setCell ⟨pb, 1, none⟩ (.string (s.extract f s.size))).heap.size = wr.heap.size := by simp [World.setCell]
        have b3 : Below (wr.setCell ⟨pb, 1, none⟩ (.string (s.extract f s.size))).heap.size (wr.setCell ⟨pb, 1, none⟩ (.string (s.extract f s.size))) ((wr.setCell ⟨pb, 1, none⟩ (.string (s.extract f s.size))).alloc (.cells #[.string n0, .string (s.extract f s.size)] 36)) := (Below.refl _ _).alloc (Nat.le_refl _) _
        have HL3 := Lib.hid (l2.below b3)
        have HO3 := Lib.hid (OwnQ.below (HO.out.but (But.set pb 1 wr (.string (s.extract f s.size))) HNe.out) b3)
        have HPI := Lib.hid (show PairsIn ((wr.setCell ⟨pb, 1, none⟩ (.string (s.extract f s.size))).alloc (.cells #[.string n0, .string (s.extract f s.size)] 36)) (some ⟨wr.heap.size, 0, none⟩) [(n0, (s.extract f s.size))] from fun k y hy => by
          have hk : k = 0 := by have := (List.getElem?_eq_some_iff.1 hy).1; simp at this; exact this
          subst hk
          obtain rfl : (n0, (s.extract f s.size)) = y := by simpa using hy
          have hn := Lies.new (wr.setCell ⟨pb, 1, none⟩ (.string (s.extract f s.size))) [.string n0, .string (s.extract f s.size)] 36
          rw [hs2] at hn
          exact ⟨_, _, rfl, hn.cell (i := 0) rfl, hn.cell (i := 1) rfl⟩)
        have HB3 := Lib.hid ((below_at13 HB.out hBp 1 (.string (s.extract f s.size))).trans (b3.mono (by rw [hs2]; have := HB.out.size; have := HBw.out; omega)))
        have HS3 := Lib.hid (show ((wr.setCell ⟨pb, 1, none⟩ (.string (s.extract f s.size))).alloc (.cells #[.string n0, .string (s.extract f s.size)] 36)).heap.size = wr.heap.size + 1 by simp [World.setCell])
        clear hfi l2 b3 hs2
        go_wp2_with (at_builtin; refine app_pairs rfl _ _ rfl B _ out [(n0, (s.extract f s.size))] rfl HO3.out wr.heap.size 0 1 rfl HPI.out (by have := HOl.out; show out.length + 1 ≤ 2000000; omega) (by rw [HS3.out]; have := HB.out.size; have := HBw.out; omega) ?_; intro v4 w4 h1 h2 h3 h4; have HL4 := Lib.hid ((h3.block pb HL3.out.lt (fun e => HNe.out pb e.symm rfl)).trans HL3.out); have HO4 := Lib.hid h1; have HNe4 := Lib.hid (show ∀ q, v4.ownBlock = some q → q ≠ pb from fun q hq => by rcases h4 q hq with h5 | h5; exact HNe.out q h5; have := HLi.out.lt; rw [HS3.out] at h5; omega); have HB4 := Lib.hid (HB3.out.trans (h2.mono (by have := HBw.out; omega))); clear h1 h2 h3 h4)
        obtain ⟨p4, c4, rfl, hc1, hc2⟩ := HO4.out.shape
        go_ret2
        refine ⟨?_, HBw.out ▸ HB4.out⟩
        unfold RefParseIs
        rw [HPn.out]
        exact ⟨p4, c4, by rw [List.length_map]; rfl, by rw [List.length_map]; exact hc1, hc2, by rw [map_pairB]; exact HO4.out.pairs⟩
end Go.Proofs.YtaniekpkcihpiaaDoor
