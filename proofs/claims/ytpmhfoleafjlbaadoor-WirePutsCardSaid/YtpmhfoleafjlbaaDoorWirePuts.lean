/-
  The contract of chapter 5's law WirePuts: of any things it answers true; old memory is as it was. The conditions: the things' cells; the variable errors.errorType reads as the type error's own handle.
-/
import Derived.Test.YtpmhfoleafjlbaaDoorWirePutAll
import Derived.Test.YtpmhfoleafjlbaaDoorWireAwake
import Derived.Test.YtpmhfoleafjlbaaDoorWireTold
namespace Go.Proofs.YtpmhfoleafjlbaaDoor
open Go.RowKit TextNat

set_option maxRecDepth 100000 in
set_option maxHeartbeats 4000000 in
theorem puts_true (xs : List Item) (pp : Option Addr) (cap : Nat) (w : World) (hI : ItemsIn w pp xs) (hs : ∀ x ∈ xs, x.small) (hc : xs.length ≤ cap) (hm : cap ≤ maxLen) (hn : pp = none → cap = 0) (hg : Handle w) :
    Calls Tryd.prog 3 #[.slice pp xs.length cap] w fun e w' => e = .returned (.bool true) ∧ Below w.heap.size w w' := by
  have HA := Lib.hid (fun w1 => awake_true w1)
  have HFw := Lib.hid (fun w1 (h : Below w.heap.size w w1) => few_ok xs pp cap w1 (hI.grown h) hs hc hm hn)
  have HG := Lib.hid hg
  obtain ⟨N, hN⟩ : ∃ N, N = xs.length := ⟨_, rfl⟩
  rw [← hN] at HFw
  rw [← hN]
  cases hlong : (xs.take 300).any Item.long with
  | true =>
    have HFi := Lib.hid (fun B w1 e (h : FewIs B w1 xs e) => (show e = .returned (.tuple #[.slice none 0 0, .bool false]) by unfold FewIs at h; rw [if_pos hlong] at h; exact h))
    clear hI hs hc hm hn hN hlong hg
    go_enter Tryd.func3, Tryd.ntmps3
    go_wp2_with fail
    refine (HA.out _).mono ?_
    rintro e w2 ⟨rfl, hb2⟩
    go_wp2_with fail
    refine (HFw.out _ hb2).mono ?_
    rintro e w3 ⟨hf, hb3⟩
    obtain rfl := HFi.out _ _ _ hf
    go_wp2_with fail
    go_ret
    exact ⟨rfl, hb2.trans (hb3.mono hb2.size)⟩
  | false =>
    obtain ⟨ys, hys⟩ : ∃ ys, ys = (xs.take 300).map Item.tidy := ⟨_, rfl⟩
    have HFi := Lib.hid (fun B w1 e (h : FewIs B w1 xs e) => (show ∃ g c, e = .returned (.tuple #[.slice (some ⟨g, 0, none⟩) ys.length c, .bool true]) ∧ B ≤ g ∧ g < w1.heap.size ∧ ItemsAt w1 g ys by unfold FewIs at h; rw [if_neg (by rw [hlong]; decide), ← hys] at h; exact h))
    have HFine := Lib.hid (show ∀ y ∈ ys, y.fine from fun y hy => by
      rw [hys] at hy
      obtain ⟨x, hx, rfl⟩ := List.mem_map.1 hy
      refine tidy_fine (hs x (List.mem_of_mem_take hx)) ?_
      cases hl : x.long with
      | false => rfl
      | true =>
        have : (xs.take 300).any Item.long = true := List.any_eq_true.2 ⟨x, hx, hl⟩
        rw [hlong] at this
        cases this)
    have hyl : ys.length ≤ 300 := by rw [hys, List.length_map, List.length_take]; omega
    obtain ⟨M, hM⟩ : ∃ M, M = ys.length := ⟨_, rfl⟩
    rw [← hM] at HFi hyl
    have HM := Lib.hid hM
    obtain ⟨p, hp⟩ : ∃ p, p = WireMath.written (ys.map Item.thing) := ⟨_, rfl⟩
    have HPut := Lib.hid (fun g c w1 hI hg => put_all ys g M c w1 hI hg hM hyl HFine.out)
    have HWr := Lib.hid (fun g c w1 hI hg => refWritten ys g c w1 hI hg (fun x hx => by have := HFine.out x hx; obtain ⟨_, _, h3, h4⟩ := this; exact ⟨by omega, by omega⟩) (by rw [← hM]; omega))
    rw [← hp] at HPut HWr
    rw [← hM] at HWr
    have HDn := Lib.hid (fun pb w1 h => done_ok pb p w1 h)
    have HDz := Lib.hid (fun w1 => doneNil_ok w1)
    clear hI hs hc hm hn hN hlong hM hp hys hg
    go_enter Tryd.func3, Tryd.ntmps3
    go_wp2_with fail
    refine (HA.out _).mono ?_
    rintro e w2 ⟨rfl, hb2⟩
    go_wp2_with fail
    refine (HFw.out _ hb2).mono ?_
    rintro e w3 ⟨hf, hb3⟩
    obtain ⟨g, c1, rfl, hg1, hg2, hit⟩ := HFi.out _ _ _ hf
    have HB3 := Lib.hid (hb2.trans (hb3.mono hb2.size))
    clear hf hb2 hb3
    go_wp2_with fail
    refine (HPut.out g c1 _ hit hg2).mono ?_
    rintro e w4 ⟨ob, rfl, ho1, ho2, hb4⟩
    have HB4 := Lib.hid (HB3.out.trans (hb4.mono HB3.out.size))
    have HIt4 := Lib.hid (hit.grown hg2 hb4)
    have HG4 := Lib.hid (Nat.lt_of_lt_of_le hg2 hb4.size)
    have HBad := Lib.hid ho2.bad
    clear hit hg1 hg2 hb4
    go_wp2_with fail
    refine (HDn.out ob _ ho2).mono ?_
    rintro e w5 ⟨hd, hb5⟩
    have HB5 := Lib.hid (HB4.out.trans (hb5.mono HB4.out.size))
    have HIt5 := Lib.hid (HIt4.out.grown HG4.out hb5)
    have HG5 := Lib.hid (Nat.lt_of_lt_of_le HG4.out hb5.size)
    clear ho1 ho2 hb5 HIt4 HG4
    obtain ⟨D, bad⟩ := p
    cases bad with
    | some q =>
      obtain ⟨c, k⟩ := q
      obtain ⟨r, rfl, hch⟩ := hd
      have HC := Lib.hid hch
      have HB := HB5
      have h13 := (HBad.out c k rfl).2
      have HK := Lib.hid (show (c : Int) = 1 ∨ (c : Int) = 2 ∨ (c : Int) = 3 by omega)
      clear h13 hch
      go_wp2_with (first
        | (go_at_call 9; refine (HWr.out g c1 _ HIt5.out HG5.out).mono ?_; rintro e w6 ⟨rfl, hb⟩; replace HB := Lib.hid (HB.out.trans (hb.mono HB.out.size)); replace HC := Lib.hid (HC.out.mono hb hb.size); unfold putValue; clear hb)
        | (go_at_call 10; refine (numNil_ok _ _).mono ?_; rintro e w6 ⟨rfl, hb⟩; replace HB := Lib.hid (HB.out.trans (hb.mono HB.out.size)); replace HC := Lib.hid (HC.out.mono hb hb.size); clear hb)
        | (go_at_call 11; refine (textNil_ok _ _).mono ?_; rintro e w6 ⟨rfl, hb⟩; replace HB := Lib.hid (HB.out.trans (hb.mono HB.out.size)); replace HC := Lib.hid (HC.out.mono hb hb.size); clear hb)
        | (go_at_call 12; refine (flagNil_ok _).mono ?_; rintro e w6 ⟨rfl, hb⟩; replace HB := Lib.hid (HB.out.trans (hb.mono HB.out.size)); replace HC := Lib.hid (HC.out.mono hb hb.size); clear hb)
        | (go_at_call 13; refine (vecNil_ok _).mono ?_; rintro e w6 ⟨rfl, hb⟩; replace HB := Lib.hid (HB.out.trans (hb.mono HB.out.size)); replace HC := Lib.hid (HC.out.mono hb hb.size); clear hb)
        | (go_at_call 8; refine (HDz.out _).mono ?_; rintro e w6 ⟨rz, rfl, hcz, hb⟩; replace HB := Lib.hid (HB.out.trans (hb.mono HB.out.size)); replace HC := Lib.hid (HC.out.mono hb hb.size); have HCz := Lib.hid hcz; clear hb hcz)
        | (go_at_call 14; refine (told_some r (c : Int) (k : Int) _ HC.out HK.out (HG.out.below HB.out HG.out.lt)).mono ?_; rintro e w6 ⟨rfl, hb⟩; replace HB := Lib.hid (HB.out.trans (hb.mono HB.out.size)); replace HCz := Lib.hid (HCz.out.mono hb hb.size); clear hb)
        | (go_at_call 15; refine (Is_chain _ _ 1 1 rz _ HCz.out).mono ?_; rintro e w7 ⟨rfl, rfl⟩))
      go_ret
      exact ⟨rfl, HB.out⟩
    | none =>
      obtain rfl : e = .returned (.tuple #[.string (txt D), .nilIface]) := hd
      have HB := HB5
      go_wp2_with (first
        | (go_at_call 9; refine (HWr.out g c1 _ HIt5.out HG5.out).mono ?_; rintro e w6 ⟨rfl, hb⟩; replace HB := Lib.hid (HB.out.trans (hb.mono HB.out.size)); unfold putValue; clear hb)
        | (go_at_call 10; refine (numNil_ok _ _).mono ?_; rintro e w6 ⟨rfl, hb⟩; replace HB := Lib.hid (HB.out.trans (hb.mono HB.out.size)); clear hb)
        | (go_at_call 11; refine (textNil_ok _ _).mono ?_; rintro e w6 ⟨rfl, hb⟩; replace HB := Lib.hid (HB.out.trans (hb.mono HB.out.size)); clear hb)
        | (go_at_call 12; refine (flagNil_ok _).mono ?_; rintro e w6 ⟨rfl, hb⟩; replace HB := Lib.hid (HB.out.trans (hb.mono HB.out.size)); clear hb)
        | (go_at_call 13; refine (vecNil_ok _).mono ?_; rintro e w6 ⟨rfl, hb⟩; replace HB := Lib.hid (HB.out.trans (hb.mono HB.out.size)); clear hb)
        | (go_at_call 8; refine (HDz.out _).mono ?_; rintro e w6 ⟨rz, rfl, hcz, hb⟩; replace HB := Lib.hid (HB.out.trans (hb.mono HB.out.size)); have HCz := Lib.hid hcz; clear hb hcz)
        | (go_at_call 14; refine (told_nil _ _).mono ?_; rintro e w6 ⟨rfl, rfl⟩)
        | (go_at_call 15; refine (Is_chain _ _ 1 1 rz _ HCz.out).mono ?_; rintro e w7 ⟨rfl, rfl⟩))
      go_ret
      exact ⟨rfl, HB.out⟩
end Go.Proofs.YtpmhfoleafjlbaaDoor
