/-
  The contract of the program's Find of chapter 13. The condition: what its Parse answers.
-/
import Derived.Test.YtaniekpkcihpiaaCookieP1
import Derived.Test.YtaniekpkcihpiaaCookieHits
import Derived.Deep.Cut
import Derived.Deep.CutRange
namespace Go.Proofs.Ytaniekpkcihpiaa
open Go.RowKit TextNat CookieMath

theorem ErrIs.code {w : World} (c : Int) : ErrIs w c (.iface 32 (.int .i64 c)) := ⟨[], rfl⟩
set_option maxRecDepth 100000 in
theorem find_refused (b : Nat) (s : ByteArray) (c : Int) (v : Value) (w : World) (h : Lies w b [.string s] 9) (hv : ErrIs w c v) :
    Calls Try.prog 16 #[v, rpt b] w fun e w' => (∃ x, e = .returned (.tuple #[.string ⟨#[]⟩, x]) ∧ ErrAt w' cook (s.size : Int) c x) ∧ Below w.heap.size w w' := by
  obtain ⟨l, hl⟩ := hv
  have HE := Lib.hid (at_chain cook (s.size : Int) l c v w hl)
  have c0 := h.cell (i := 0) rfl
  clear h hl
  go_enter Try.func16, Try.ntmps16
  go_wp2_with fail
  refine HE.out.mono ?_
  rintro e w2 ⟨x, rfl, hx, hb⟩
  have HX := Lib.hid hx
  have HB := Lib.hid hb
  clear hx hb
  go_wp2
  go_ret2
  exact ⟨⟨x, rfl, ⟨_, HX.out⟩⟩, HB.out⟩
theorem findIs_no {w : World} {s name : ByteArray} {c : Nat} (h : findF (nats s) (nats name) = .inr c) {e : Ending} {x : Value} (he : e = .returned (.tuple #[.string ⟨#[]⟩, x])) (hx : ErrAt w cook (s.size : Int) (c : Int) x) : FindIs w s name e := by
  unfold FindIs
  rw [h]
  exact ⟨x, he, hx⟩
set_option maxRecDepth 100000 in
set_option maxHeartbeats 8000000 in
theorem find_prog (hP : ParseOk) : FindOk := by
  intro s name w hs hn
  obtain ⟨sb, hsb⟩ : ∃ sb, sb = w.heap.size := ⟨_, rfl⟩
  obtain ⟨W0, hW0⟩ : ∃ W0, W0 = w.alloc (.cells #[.string s] 9) := ⟨_, rfl⟩
  have HL0 := Lib.hid (show Lies W0 sb [.string s] 9 by rw [hW0, hsb]; exact Lies.new w [.string s] _)
  have HB0 := Lib.hid (show Below sb w W0 by rw [hW0, hsb]; exact (Below.refl _ _).alloc (Nat.le_refl _) _)
  have HW0 := Lib.hid hW0
  have HSB := Lib.hid hsb
  have HRf := Lib.hid (find_refused sb s)
  have c0 := HL0.out.cell (i := 0) rfl
  by_cases h4 : 4096 < s.size
  · have t1 : decide ((4096 : Int) < (s.size : Int)) = true := decide_eq_true (by omega)
    have t1' : decide (4096 < s.size) = true := decide_eq_true h4
    have HF := Lib.hid (show findF (nats s) (nats name) = .inr 3 from findF_long (by rw [nats_len]; exact h4))
    clear h4 hs hW0 hsb
    go_enter Try.func7, Try.ntmps7
    go_upto_region 2 with fail
    rw [← HW0.out, ← HSB.out]
    go_wp2_with fail
    refine (HRf.out 3 _ _ HL0.out (ErrIs.code 3)).mono ?_
    rintro e w2 ⟨⟨x, rfl, hx⟩, hb⟩
    have HX := Lib.hid hx
    have HB := Lib.hid (HB0.out.trans (hb.mono (Nat.le_trans (Nat.le_of_eq HSB.out) HB0.out.size)))
    clear hx hb
    go_wp2
    go_ret2
    exact ⟨findIs_no HF.out rfl HX.out, by rw [← HSB.out]; exact HB.out⟩
  have t1 : decide ((4096 : Int) < (s.size : Int)) = false := decide_eq_false (by omega)
  have t1' : decide (4096 < s.size) = false := decide_eq_false h4
  have H4 := Lib.hid h4
  have HP := Lib.hid (hP s W0 hs)
  clear h4 hs hW0 hsb hP
  go_enter Try.func7, Try.ntmps7
  go_upto_region 2 with fail
  rw [← HW0.out, ← HSB.out]
  go_wp2_with fail
  refine HP.out.mono ?_
  rintro e w1 ⟨h1, hb⟩
  have HB1 := Lib.hid (HB0.out.trans (hb.mono (Nat.le_trans (Nat.le_of_eq HSB.out) HB0.out.size)))
  have HL1 := Lib.hid (HL0.out.below hb)
  clear hb HP c0 HL0
  unfold ParseIs at h1
  cases hp : parse (nats s) with
  | inr k =>
    rw [hp] at h1
    obtain ⟨pp, cap, x, rfl, hx⟩ := h1
    have HX := Lib.hid hx.is
    obtain ⟨T, y, rfl⟩ := hx.is.iface
    have HF := Lib.hid (findF_bad (name := nats name) (by rw [nats_len]; exact H4.out) hp)
    clear hp hx
    go_wp2_with fail
    refine (HRf.out 2 _ _ HL1.out HX.out).mono ?_
    rintro e w2 ⟨⟨x, rfl, hx⟩, hb⟩
    have HX2 := Lib.hid hx
    have HB := Lib.hid (HB1.out.trans (hb.mono (Nat.le_trans (Nat.le_of_eq HSB.out) HB1.out.size)))
    clear hx hb
    go_wp2
    go_ret2
    exact ⟨findIs_no HF.out rfl HX2.out, by rw [← HSB.out]; exact HB.out⟩
  | inl L =>
    rw [hp] at h1
    obtain ⟨pp, cap, rfl, hc1, hc2, hI⟩ := h1
    obtain ⟨xs, hxs⟩ : ∃ xs, xs = L.map pairB := ⟨_, rfl⟩
    have HXL := Lib.hid (show L.length = xs.length by rw [hxs, List.length_map])
    have HF := Lib.hid (find_by (name := name) (xs := xs) H4.out (hp.trans (by rw [hxs, parse_texts hp])))
    rw [← hxs] at hI
    have HI := Lib.hid hI
    obtain ⟨N, hN⟩ : ∃ N, N = xs.length := ⟨_, rfl⟩
    rw [HXL.out, ← hN]
    have hN9 : N ≤ 9223372036854775807 := by rw [hN, ← HXL.out]; omega
    have HN := Lib.hid hN
    clear hp hxs hI hc1 hc2 hN
    go_wp2
    go_loopg [9, 10, 36] N (fun gh s9 s10 s36 wx => ∃ i : Nat, i + gh = N ∧ s36 = .int .i64 (i : Int) ∧ Hid (Below sb w wx) ∧ Hid (Lies wx sb [.string s] 9) ∧ Hid (PairsIn wx pp xs) ∧
      ((s9 = .string ⟨#[]⟩ ∧ s10 = .bool false ∧ Hid (hits xs name i = [])) ∨ ∃ (x : PairV), s9 = .string x.2 ∧ s10 = .bool true ∧ Hid (hits xs name i = [x])))
    case atStart => exact ⟨0, by omega, by go_num, Lib.hid HB1.out, Lib.hid HL1.out, Lib.hid HI.out, .inl ⟨rfl, rfl, Lib.hid rfl⟩⟩
    case round =>
      obtain ⟨i, hi, rfl, HB, HL, HI, hst⟩ := hrel
      rename World => W
      by_cases hlt : i < N
      · have t1 : decide ((i : Int) < (N : Int)) = true := decide_eq_true (by omega)
        have t1' : decide (i < N) = true := decide_eq_true hlt
        obtain ⟨x, hx⟩ : ∃ x, xs[i]? = some x := ⟨_, List.getElem?_eq_getElem (by rw [← HN.out]; exact hlt)⟩
        obtain ⟨b1, o1, rfl⟩ := HI.out.addr (by rw [← HN.out]; omega)
        obtain ⟨c0, c1⟩ := HI.out.look hx
        obtain ⟨x1, x2⟩ := x
        have hal := (Below.refl W.heap.size W).alloc (Nat.le_refl _) (.cells #[.string x1, .string x2] 24)
        have HB2 := Lib.hid (HB.out.trans (hal.mono (Nat.le_trans (Nat.le_of_eq HSB.out) HB.out.size)))
        have HL2 := Lib.hid (HL.out.below hal)
        have HI2 := Lib.hid (HI.out.grown hal)
        clear hal
        by_cases he : x1 = name
        · have HY := Lib.hid (hits_yes (name := name) hx he)
          simp only at c0 c1
          subst he
          rcases hst with ⟨rfl, rfl, hh⟩ | ⟨y, rfl, rfl, hh⟩
          · have HH := Lib.hid (show hits xs x1 (i + 1) = [(x1, x2)] by rw [HY.out, hh.out]; rfl)
            clear hx hh
            go_wp2
            go_roundg (N - (i + 1))
            case measure => omega
            case rel => exact ⟨i + 1, by omega, by go_num, HB2, HL2, HI2, .inr ⟨(x1, x2), rfl, rfl, HH⟩⟩
          · have HF8 := Lib.hid (show findF (nats s) (nats x1) = .inr 8 by
              obtain ⟨r, hr⟩ := hits_all xs x1 (i + 1)
              rw [HF.out, hr, HY.out, hh.out]
              rfl)
            have HRf8 := Lib.hid (HRf.out 8 _ _ HL2.out (ErrIs.code 8))
            clear hx hh
            go_wp2_with (go_at_call 16; refine HRf8.out.mono ?_; rintro e w2 ⟨⟨x, rfl, hx⟩, hb⟩; have HX2 := Lib.hid hx; have HB3 := Lib.hid (HB2.out.trans (hb.mono (Nat.le_trans (Nat.le_of_eq HSB.out) HB2.out.size))); clear hx hb)
            go_ret2
            exact ⟨findIs_no HF8.out rfl HX2.out, by rw [← HSB.out]; exact HB3.out⟩
        · have HY := Lib.hid (hits_no (name := name) hx he)
          simp only at c0 c1
          have ht : (x1.toList == name.toList) = false := beq_eq_false_iff_ne.2 (text_list he)
          have ht' := text_list he
          clear hx he
          go_wp2
          go_roundg (N - (i + 1))
          case measure => omega
          case rel =>
            refine ⟨i + 1, by omega, by go_num, HB2, HL2, HI2, ?_⟩
            rcases hst with ⟨rfl, rfl, hh⟩ | ⟨y, rfl, rfl, hh⟩
            · exact .inl ⟨rfl, rfl, Lib.hid (HY.out.trans hh.out)⟩
            · exact .inr ⟨y, rfl, rfl, Lib.hid (HY.out.trans hh.out)⟩
      · obtain rfl : i = N := by omega
        have t1 : decide ((i : Int) < (i : Int)) = false := decide_eq_false (by omega)
        have t1' : decide (i < i) = false := decide_eq_false (by omega)
        rcases hst with ⟨rfl, rfl, hh⟩ | ⟨y, rfl, rfl, hh⟩
        · have HF7 := Lib.hid (show findF (nats s) (nats name) = .inr 7 by rw [HF.out, ← HN.out, hh.out])
          have HRf7 := Lib.hid (HRf.out 7 _ _ HL.out (ErrIs.code 7))
          clear hh
          go_wp2_with (go_at_call 16; refine HRf7.out.mono ?_; rintro e w2 ⟨⟨x, rfl, hx⟩, hb⟩; have HX2 := Lib.hid hx; have HB3 := Lib.hid (HB.out.trans (hb.mono (Nat.le_trans (Nat.le_of_eq HSB.out) HB.out.size))); clear hx hb)
          go_ret2
          exact ⟨findIs_no HF7.out rfl HX2.out, by rw [← HSB.out]; exact HB3.out⟩
        · have HF0 := Lib.hid (show findF (nats s) (nats name) = .inl (nats y.2) by rw [HF.out, ← HN.out, hh.out])
          clear hh
          go_wp2
          go_ret2
          refine ⟨?_, by rw [← HSB.out]; exact HB.out⟩
          unfold FindIs
          rw [HF0.out]
          show _ = Ending.returned (.tuple #[.string (txt (nats y.2)), .nilIface])
          rw [txt_nats]
          rfl
end Go.Proofs.Ytaniekpkcihpiaa
