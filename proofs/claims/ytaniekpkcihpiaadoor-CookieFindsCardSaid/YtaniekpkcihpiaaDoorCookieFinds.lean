/-
  CookieFinds' contract. The conditions: the program's contracts; the variable errors.errorType reads as the type error's own handle.
-/
import Derived.Test.YtaniekpkcihpiaaDoorPart14
namespace Go.Proofs.YtaniekpkcihpiaaDoor
open Go.RowKit TextNat CookieMath

theorem findF_code {s name : List Nat} {c : Nat} (h : findF s name = .inr c) : c ≠ 0 := by
  unfold findF at h
  split at h
  · have := Sum.inr.inj h
    omega
  · split at h
    · have := Sum.inr.inj h
      omega
    · split at h
      · have := Sum.inr.inj h
        omega
      · cases h
      · have := Sum.inr.inj h
        omega
set_option maxRecDepth 100000 in
set_option maxHeartbeats 8000000 in
theorem finds_true (hP : ParseOk) (hF : FindOk) (s name : ByteArray) (w : World) (hg : Handle w) :
    Calls Tryd.prog 5 #[.string s, .string name] w fun e w' => e = .returned (.bool true) ∧ Below w.heap.size w w' := by
  have HA := Lib.hid (awake_true hP w)
  have HF := Lib.hid hF
  have HG := Lib.hid hg
  clear hP hF hg
  go_enter Tryd.func5, Tryd.ntmps5
  go_wp2_with fail
  refine HA.out.mono ?_
  rintro e w1 ⟨rfl, hb⟩
  have HB := Lib.hid hb
  clear HA hb
  by_cases hs : 10000 < s.size
  · have t1 : decide ((10000 : Int) < (s.size : Int)) = true := decide_eq_true (by omega)
    have t1' : decide (10000 < s.size) = true := decide_eq_true hs
    clear hs
    go_wp2
    go_ret
    exact ⟨rfl, HB.out⟩
  have t1 : decide ((10000 : Int) < (s.size : Int)) = false := decide_eq_false (by omega)
  have t1' : decide (10000 < s.size) = false := decide_eq_false hs
  have HS := Lib.hid (show s.size ≤ 10000 by omega)
  by_cases hn : 1000 < name.size
  · have t2 : decide ((1000 : Int) < (name.size : Int)) = true := decide_eq_true (by omega)
    have t2' : decide (1000 < name.size) = true := decide_eq_true hn
    clear hs hn
    go_wp2
    go_ret
    exact ⟨rfl, HB.out⟩
  have t2 : decide ((1000 : Int) < (name.size : Int)) = false := decide_eq_false (by omega)
  have t2' : decide (1000 < name.size) = false := decide_eq_false hn
  have HNm := Lib.hid (show name.size ≤ 1000 by omega)
  clear hs hn
  go_wp2_with fail
  refine (HF.out s name _ (by have := HS.out; omega) HNm.out).mono ?_
  rintro e w2 ⟨h2, hb⟩
  replace HB := Lib.hid (HB.out.trans (hb.mono HB.out.size))
  clear hb
  unfold FindIs at h2
  cases hf : findF (nats s) (nats name) with
  | inr c =>
    rw [hf] at h2
    obtain ⟨x, rfl, hx⟩ := h2
    obtain ⟨T, u, rfl⟩ := hx.is.iface
    have HE := Lib.hid hx
    have HFd := Lib.hid hf
    have hc0 := findF_code hf
    clear hx hf
    go_wp2_with fail
    refine (refFind13 s name _ (by have := HS.out; omega)).mono ?_
    rintro e w3 ⟨h3, hb⟩
    unfold RefFindIs at h3
    rw [HFd.out] at h3
    subst h3
    replace HE := Lib.hid (HE.out.below hb)
    replace HB := Lib.hid (HB.out.trans (hb.mono HB.out.size))
    have t3 : ((c : Int) != 0) = true := by rw [bne_iff_ne]; omega
    clear hb hc0
    go_wp2_with fail
    refine (told_ok _ (c : Int) (s.size : Int) w3 HE.out (handle_up HG.out HB.out)).mono ?_
    rintro e w4 ⟨rfl, hb⟩
    replace HB := Lib.hid (HB.out.trans (hb.mono HB.out.size))
    clear hb
    go_wp2
    go_ret
    exact ⟨rfl, HB.out⟩
  | inl v =>
    rw [hf] at h2
    subst h2
    have HFd := Lib.hid hf
    obtain ⟨V, hV⟩ : ∃ V, V = txt v := ⟨_, rfl⟩
    rw [← hV]
    have HV := Lib.hid hV
    clear hf hV
    go_wp2_with fail
    refine (refFind13 s name _ (by have := HS.out; omega)).mono ?_
    rintro e w3 ⟨h3, hb⟩
    unfold RefFindIs at h3
    rw [HFd.out] at h3
    simp only [← HV.out] at h3
    subst h3
    replace HB := Lib.hid (HB.out.trans (hb.mono HB.out.size))
    clear hb
    go_wp2
    go_ret
    exact ⟨rfl, HB.out⟩
end Go.Proofs.YtaniekpkcihpiaaDoor
