/-
  The document's Write of chapter 13. The conditions: the pairs lie where they are said to; each text has at most 20,000 bytes, all together at most 1,000,000.
-/
import Derived.Test.YtaniekpkcihpiaaDoorPart08
import Derived.Test.YtaniekpkcihpiaaDoorPart12
import Derived.Deep.LoopGhost
namespace Go.Proofs.YtaniekpkcihpiaaDoor
open Go.RowKit TextNat CookieMath

theorem header_snoc : ∀ (l : List CookieMath.Pair) (p : CookieMath.Pair), header (l ++ [p]) = (if l = [] then [] else header l ++ [59, 32]) ++ one p
  | [], p => by simp [header]
  | [q], p => by
    show one q ++ 59 :: 32 :: one p = _
    rw [if_neg (by simp)]
    simp [header]
  | q :: r :: l, p => by
    have ih := header_snoc (r :: l) p
    rw [if_neg (by simp)] at ih
    rw [if_neg (by simp)]
    show one q ++ 59 :: 32 :: header ((r :: l) ++ [p]) = (one q ++ 59 :: 32 :: header (r :: l) ++ [59, 32]) ++ one p
    rw [ih]
    simp
/-- The header of the first i pairs. -/
def headTo (xs : List PairV) (i : Nat) : ByteArray := txt (header ((xs.take i).map PairV.n))
theorem headTo_zero (xs : List PairV) : headTo xs 0 = ⟨#[]⟩ := rfl
theorem headTo_one {xs : List PairV} {a : PairV} (h : xs[0]? = some a) : (⟨#[]⟩ : ByteArray) ++ a.1 ++ ⟨#[61]⟩ ++ a.2 = headTo xs 1 := by
  unfold headTo
  rw [List.take_add_one, h]
  show _ = txt (one a.n)
  unfold one PairV.n
  show _ = txt (nats a.1 ++ ([61] ++ nats a.2))
  rw [← txt_append, ← txt_append, txt_nats, txt_nats, ByteArray.append_assoc]
  show (⟨#[]⟩ : ByteArray) ++ a.1 ++ (⟨#[61]⟩ ++ a.2) = a.1 ++ (⟨#[61]⟩ ++ a.2)
  rw [show (⟨#[]⟩ : ByteArray) = ByteArray.empty from rfl, ByteArray.empty_append]
theorem headTo_step {xs : List PairV} {i : Nat} {a : PairV} (h0 : 0 < i) (h : xs[i]? = some a) : headTo xs i ++ ⟨#[59, 32]⟩ ++ a.1 ++ ⟨#[61]⟩ ++ a.2 = headTo xs (i + 1) := by
  have hi := (List.getElem?_eq_some_iff.1 h).1
  unfold headTo
  rw [List.take_add_one, h, List.map_append]
  show _ = txt (header ((xs.take i).map PairV.n ++ [a.n]))
  rw [header_snoc, if_neg (by
    intro he
    have := congrArg List.length he
    simp only [List.length_map, List.length_take, List.length_nil] at this
    omega)]
  unfold one PairV.n
  show _ = txt ((header ((xs.take i).map PairV.n) ++ [59, 32]) ++ (nats a.1 ++ ([61] ++ nats a.2)))
  rw [← txt_append, ← txt_append, ← txt_append, ← txt_append, txt_nats, txt_nats]
  simp only [ByteArray.append_assoc]
  rfl
theorem headTo_size (xs : List PairV) (i : Nat) : (headTo xs i).size ≤ total (xs.map PairV.n) := by
  unfold headTo
  rw [txt_len]
  refine Nat.le_trans (header_le _) ?_
  have := total_append ((xs.take i).map PairV.n) ((xs.drop i).map PairV.n)
  rw [← List.map_append, List.take_append_drop] at this
  omega
theorem headTo_all {xs : List PairV} {i : Nat} (h : xs.length ≤ i) : headTo xs i = txt (header (xs.map PairV.n)) := by
  unfold headTo
  rw [List.take_of_length_le h]
/-- What the document's Write answers. -/
def RefWriteIs (xs : List PairV) (e : Ending) : Prop :=
  match badV xs with
  | none => e = .returned (.tuple #[.string (txt (header (xs.map PairV.n))), .int .i64 (-1)])
  | some i => e = .returned (.tuple #[.string ⟨#[]⟩, .int .i64 (i : Int)])
theorem bad_at {xs : List PairV} {i : Nat} {a : PairV} (h : ∀ j b, j < i → xs[j]? = some b → rightV b = true) (hi : xs[i]? = some a) (ha : rightV a = false) : badV xs = some i := by
  unfold badV
  rw [List.findIdx?_eq_some_iff_getElem]
  obtain ⟨h1, h2⟩ := List.getElem?_eq_some_iff.1 hi
  refine ⟨h1, by rw [h2, ha]; rfl, fun j hj he => ?_⟩
  have := h j _ hj (List.getElem?_eq_getElem (Nat.lt_trans hj h1))
  rw [this] at he
  cases he
theorem bad_no {xs : List PairV} {i : Nat} (h : ∀ j b, j < i → xs[j]? = some b → rightV b = true) (hi : xs.length ≤ i) : badV xs = none := by
  unfold badV
  rw [List.findIdx?_eq_none_iff]
  intro x hx
  obtain ⟨j, hj⟩ := List.getElem?_of_mem hx
  have := h j x (by have := (List.getElem?_eq_some_iff.1 hj).1; omega) hj
  rw [this]
  rfl
theorem below_drewN13 {B : Nat} {a w : World} (n : Nat) (h : Below B a w) : Below B a (w.drewN n) := ⟨h.os, h.tape, h.output, h.size, h.block⟩
set_option maxRecDepth 100000 in
set_option maxHeartbeats 8000000 in
theorem refWrite13 (pp : Option Addr) (cap : Nat) (xs : List PairV) (w : World) (hx : PairsIn w pp xs) (hl : xs.length ≤ 9223372036854775807) (ht : total (xs.map PairV.n) ≤ 1000000) (hs : ∀ p ∈ xs, p.1.size ≤ 20000 ∧ p.2.size ≤ 20000) :
    Calls Tryd.prog 12 #[.slice pp xs.length cap] w fun e w' => RefWriteIs xs e ∧ Below w.heap.size w w' := by
  obtain ⟨N, hN⟩ : ∃ N, N = xs.length := ⟨_, rfl⟩
  rw [← hN] at hl ⊢
  have HN := Lib.hid hN
  have HX := Lib.hid hx
  have HS := Lib.hid hs
  have HT := Lib.hid ht
  have HZ := Lib.hid (headTo_size xs)
  clear hN hx hs ht
  go_enter Tryd.func12, Tryd.ntmps12
  go_wp2
  go_loopg [4, 5] N (fun gh s4 s5 wx => ∃ i : Nat, i + gh = N ∧ s5 = .int .i64 (i : Int) ∧ (∃ S : ByteArray, s4 = .string S ∧ Hid (S = headTo xs i)) ∧ Hid (∀ j b, j < i → xs[j]? = some b → rightV b = true) ∧ Below w.heap.size w wx)
  case atStart => exact ⟨0, by omega, by go_num, ⟨_, rfl, Lib.hid rfl⟩, Lib.hid (fun j b hj => absurd hj (Nat.not_lt_zero j)), Below.refl _ _⟩
  case round =>
    obtain ⟨i, hi, rfl, ⟨S, rfl, hS⟩, hR, hB⟩ := hrel
    have HB := Lib.hid hB
    by_cases hlt : i < N
    · have t1 : decide ((i : Int) < (N : Int)) = true := decide_eq_true (by omega)
      have t1' : decide (i < N) = true := decide_eq_true hlt
      obtain ⟨x, hx⟩ : ∃ x, xs[i]? = some x := ⟨_, List.getElem?_eq_getElem (by rw [← HN.out]; exact hlt)⟩
      obtain ⟨b1, o1, rfl⟩ := HX.out.addr (by rw [← HN.out]; omega)
      obtain ⟨c0, c1⟩ := (HX.out.grown HB.out).look hx
      have hsz := HS.out x (List.mem_of_getElem? hx)
      have HR := hR
      have HBd := Lib.hid (fun h => bad_at HR.out hx h)
      have HRt := Lib.hid (show rightV x = (TextMath.token (nats x.1) && (nats x.2).all TextMath.octet) from rfl)
      have H1 := Lib.hid (fun w1 => refToken x.1 w1 hsz.1)
      have H2 := Lib.hid (fun w1 => refOctets x.2 w1 hsz.2)
      have HSn := Lib.hid (fun h => show ∀ j b, j < i + 1 → xs[j]? = some b → rightV b = true from fun j b hj hb => by
        by_cases e : j < i
        · exact HR.out j b e hb
        · obtain rfl : j = i := by omega
          obtain rfl := Option.some.inj (hx.symm.trans hb)
          exact h)
      have HH0 := Lib.hid (fun (h : 0 = i) => headTo_one (by rw [h]; exact hx))
      have HH1 := Lib.hid (fun (h : 0 < i) => headTo_step h hx)
      have HSl := Lib.hid (show S.size ≤ 1000000 by rw [hS.out]; exact Nat.le_trans (HZ.out i) HT.out)
      obtain ⟨x1, x2⟩ := x
      simp only at c0 c1 hsz H1 H2 HRt HH0 HH1
      have HSz := Lib.hid hsz
      clear hx hsz hB hR HR
      cases b1t : TextMath.token (nats x1) with
      | false =>
        have HBn := Lib.hid (HBd.out (by rw [HRt.out, b1t]; rfl))
        rw [b1t] at H1
        clear b1t
        go_wp2_with (go_at_call 22; refine (H1.out _).mono ?_; rintro e w2 ⟨rfl, rfl⟩)
        go_ret2
        exact ⟨by unfold RefWriteIs; rw [HBn.out]; rfl, HB.out⟩
      | true =>
        cases b2t : (nats x2).all TextMath.octet with
        | false =>
          have HBn := Lib.hid (HBd.out (by rw [HRt.out, b1t, b2t]; rfl))
          rw [b1t] at H1
          rw [b2t] at H2
          clear b1t b2t
          go_wp2_with (first
            | (go_at_call 22; refine (H1.out _).mono ?_; rintro e w2 ⟨rfl, rfl⟩)
            | (go_at_call 23; refine (H2.out _).mono ?_; rintro e w2 ⟨rfl, rfl⟩))
          go_ret2
          exact ⟨by unfold RefWriteIs; rw [HBn.out]; rfl, HB.out⟩
        | true =>
          have HRn := Lib.hid (HSn.out (by rw [HRt.out, b1t, b2t]; rfl))
          rw [b1t] at H1
          rw [b2t] at H2
          clear b1t b2t
          have hsz := HSz.out
          have hsl := HSl.out
          by_cases h0 : 0 = i
          · subst h0
            obtain rfl : S = ⟨#[]⟩ := hS.out.trans (headTo_zero xs)
            simp only [Nat.zero_mul, Nat.add_zero] at c0 c1
            have HHn := Lib.hid (HH0.out rfl)
            have k1 : ¬ 9223372036854775807 < x1.size := by omega
            have k2 : ¬ 9223372036854775807 < x1.size + 1 := by omega
            have k3 : ¬ 9223372036854775807 < x1.size + 1 + x2.size := by omega
            clear hsz hsl
            go_wp2_with (first
              | (go_at_call 22; refine (H1.out _).mono ?_; rintro e w2 ⟨rfl, rfl⟩)
              | (go_at_call 23; refine (H2.out _).mono ?_; rintro e w2 ⟨rfl, rfl⟩))
            go_quiet (fail)
            go_wp2
            go_roundg (N - (0 + 1))
            case measure => omega
            case rel => exact ⟨0 + 1, by omega, by go_num, ⟨_, rfl, Lib.hid HHn.out⟩, HRn, below_drewN13 _ HB.out⟩
          · have hpos : 0 < i := by omega
            have t2 : decide ((0 : Int) < (i : Int)) = true := decide_eq_true (by omega)
            have t2' : decide (0 < i) = true := decide_eq_true hpos
            have k0 : ¬ 9223372036854775807 < S.size + 2 := by omega
            have k1 : ¬ 9223372036854775807 < S.size + 2 + x1.size := by omega
            have k2 : ¬ 9223372036854775807 < S.size + 2 + x1.size + 1 := by omega
            have k3 : ¬ 9223372036854775807 < S.size + 2 + x1.size + 1 + x2.size := by omega
            have HHn := Lib.hid (HH1.out hpos)
            rw [← hS.out] at HHn
            clear hsz hsl
            go_wp2_with (first
              | (go_at_call 22; refine (H1.out _).mono ?_; rintro e w2 ⟨rfl, rfl⟩)
              | (go_at_call 23; refine (H2.out _).mono ?_; rintro e w2 ⟨rfl, rfl⟩))
            go_quiet (fail)
            go_wp2
            go_roundg (N - (i + 1))
            case measure => omega
            case rel => exact ⟨i + 1, by omega, by go_num, ⟨_, rfl, Lib.hid HHn.out⟩, HRn, below_drewN13 _ HB.out⟩
    · have t1 : decide ((i : Int) < (N : Int)) = false := decide_eq_false (by omega)
      have t1' : decide (i < N) = false := decide_eq_false hlt
      have HBn := Lib.hid (bad_no hR.out (by rw [← HN.out]; omega))
      have HSe := Lib.hid (show S = txt (header (xs.map PairV.n)) by rw [hS.out]; exact headTo_all (by rw [← HN.out]; omega))
      clear hB hR hS
      go_wp2
      go_ret2
      exact ⟨by unfold RefWriteIs; rw [HBn.out, ← HSe.out]; rfl, HB.out⟩
end Go.Proofs.YtaniekpkcihpiaaDoor
