/-
  The program's Write of chapter 14. The conditions: texts of at most 1000 bytes; the table of powers of ten as Go's text lays it.
-/
import Derived.Test.YtlgofepmdjlpgaaDoorBakeP4
import Derived.Test.YtlgofepmdjlpgaaDoorBakeP5
import Derived.Deep.CutRange
namespace Go.Proofs.YtlgofepmdjlpgaaDoor
open Go.RowKit TextNat BakeMath

theorem one_cell (w : World) (s : ByteArray) (y : List Nat) (T : TypeId) (h : s = txt y) : (w.alloc (.cells #[.string s] T)).cell? ((⟨w.heap.size, 0, none⟩ : Addr).add 0) = some (.string (txt y)) := by
  rw [h]
  show (w.alloc (.cells #[.string (txt y)] T)).cell? ⟨w.heap.size, 0, none⟩ = _
  rw [World.cell?_alloc_at _ _ _ _ (by simp)]
  rfl
theorem lit_app (a : List Nat) (A s : ByteArray) (hA : A = txt a) : A ++ s = txt (a ++ nats s) := by
  rw [hA]
  conv => lhs; rw [← txt_nats s]
  rw [txt_append]
theorem more_len (c : CookieT) (hp : c.path.length ≤ 1000) : ∀ y ∈ more c, y.length ≤ 2000 := by
  intro y hy
  unfold more at hy
  simp only [List.mem_append] at hy
  rcases hy with (((h | h) | h) | h) | h
  · unfold pPath at h
    split at h
    · cases h
    · simp only [List.mem_singleton] at h; subst h; simp; omega
  · unfold pAge at h
    split at h
    · cases h
    · simp only [List.mem_singleton] at h; subst h
      have := decF_len 20 c.age.toNat
      unfold dec
      simp; omega
  · unfold pSec at h
    split at h
    · simp only [List.mem_singleton] at h; subst h; simp
    · cases h
  · unfold pHttp at h
    split at h
    · simp only [List.mem_singleton] at h; subst h; simp
    · cases h
  · unfold pSite at h
    split at h
    · simp only [List.mem_singleton] at h; subst h; simp
    · split at h
      · simp only [List.mem_singleton] at h; subst h; simp
      · split at h
        · simp only [List.mem_singleton] at h; subst h; simp
        · cases h
set_option maxRecDepth 100000 in
set_option maxHeartbeats 16000000 in
theorem pwriteOk (x : CookieV) (w : World) (hs : x.short) (hr : rightT x.t = true) (hT : Pows w) :
    Calls Tryd.prog 7 #[x.val] w fun e w' => e = .returned (.tuple #[.string (txt (header x.t)), .nilIface]) ∧ Below w.heap.size w w' := by
  have HQ := Lib.hid (fun w => pright x w hs)
  rw [hr] at HQ
  have hri := right_is hr
  obtain ⟨ha1, ha2⟩ := hri.age
  obtain ⟨hq1, hq2⟩ := hri.site
  have hH := header_more ha1
  obtain ⟨nm, vl, pt, ag, sc, ht, st⟩ := x
  obtain ⟨hn, hv, hp⟩ := hs
  simp only [CookieV.val] at *
  have z1 : nm.size ≤ 1000 := hn
  have z2 : vl.size ≤ 1000 := hv
  have z3 : pt.size ≤ 1000 := hp
  replace ha1 : -1 ≤ ag := ha1
  replace ha2 : ag ≤ 1099511627776 := ha2
  replace hq1 : 0 ≤ st := hq1
  replace hq2 : st ≤ 3 := hq2
  obtain ⟨Hd, hHd⟩ : ∃ Hd, Hd = header (CookieV.t ⟨nm, vl, pt, ag, sc, ht, st⟩) := ⟨_, rfl⟩
  rw [← hHd] at hH ⊢
  obtain ⟨X0, hX0⟩ : ∃ X0, X0 = nats nm ++ 61 :: nats vl := ⟨_, rfl⟩
  have HH := Lib.hid (show Hd = X0 ++ (more (CookieV.t ⟨nm, vl, pt, ag, sc, ht, st⟩)).flatMap fun a => 59 :: 32 :: a by rw [hH, hX0]; rfl)
  have H0 := Lib.hid (show nm ++ ⟨#[61]⟩ ++ vl = txt X0 by
    rw [hX0, ← txt_nats nm, ← txt_nats vl, nats_txt _ (nats_lt nm), nats_txt _ (nats_lt vl), show (⟨#[61]⟩ : ByteArray) = txt [61] by decide, txt_append, txt_append, List.append_assoc]
    rfl)
  have HX := Lib.hid (show X0.length ≤ 2001 by rw [hX0, List.length_append, List.length_cons, nats_len, nats_len]; omega)
  clear hn hv hp hH hHd hX0 hri hr
  have HRow := Lib.hid (show Lies (w.alloc (.cells #[.string nm, .string vl, .string pt, .int .i64 ag, .bool sc, .bool ht, .int .i64 st] 23)) w.heap.size [.string nm, .string vl, .string pt, .int .i64 ag, .bool sc, .bool ht, .int .i64 st] 23 from Lies.new w _ _)
  have HB := Lib.hid (show Below w.heap.size w (w.alloc (.cells #[.string nm, .string vl, .string pt, .int .i64 ag, .bool sc, .bool ht, .int .i64 st] 23)) from (Below.refl _ _).alloc (Nat.le_refl _) _)
  have c0 := HRow.out.cell (i := 0) rfl; have c1 := HRow.out.cell (i := 1) rfl; have c2 := HRow.out.cell (i := 2) rfl; have c3 := HRow.out.cell (i := 3) rfl; have c4 := HRow.out.cell (i := 4) rfl; have c5 := HRow.out.cell (i := 5) rfl; have c6 := HRow.out.cell (i := 6) rfl
  have k1 : ¬ 9223372036854775807 < nm.size + 1 := by omega
  have k2 : ¬ 9223372036854775807 < nm.size + 1 + vl.size := by omega
  go_enter Tryd.func7, Tryd.ntmps7
  go_wp2_with fail
  refine (HQ.out _).mono ?_
  rintro e W ⟨rfl, hb⟩
  replace HRow := Lib.hid (HRow.out.below hb)
  replace HB := Lib.hid (HB.out.trans (hb.mono HB.out.size))
  have HP := Lib.hid (hT.below HB.out)
  clear hb hT c0 c1 c2 c3 c4 c5 c6 HQ
  obtain ⟨g, hg⟩ : ∃ g, g = w.heap.size := ⟨_, rfl⟩
  have HBW := Lib.hid HB.out
  rw [← hg] at HRow ⊢
  clear hg HB
  have c0 := HRow.out.cell (i := 0) rfl; have c1 := HRow.out.cell (i := 1) rfl
  go_upto_region 4 with fail
  obtain ⟨wa, hwa⟩ : ∃ wa, wa = W.alloc (.cells #[.string (nm ++ ⟨#[61]⟩ ++ vl)] 9) := ⟨_, rfl⟩
  rw [← hwa]
  have HO := Lib.hid (show OwnT wa W.heap.size (.slice (some ⟨W.heap.size, 0, none⟩) 1 1) (X0 :: []) by rw [hwa, H0.out]; exact OwnT.one W X0)
  have HB := Lib.hid (show Below W.heap.size W wa by rw [hwa]; exact (Below.refl _ _).alloc (Nat.le_refl _) _)
  obtain ⟨v, hv⟩ : ∃ v, v = Value.slice (some ⟨W.heap.size, 0, none⟩) 1 1 := ⟨_, rfl⟩
  rw [← hv] at HO
  obtain ⟨b0, hb0⟩ : ∃ b0, b0 = W.heap.size := ⟨_, rfl⟩
  obtain ⟨L, hL⟩ : ∃ L : List (List Nat), L = [] := ⟨_, rfl⟩
  have hLl : L.length ≤ 0 := by rw [hL]; exact Nat.le_refl _
  rw [← hL] at HO
  have HL := Lib.hid (show L = [] from hL)
  clear hwa k1 k2 c0 c1 hb0 hL H0
  rw [← hv]
  clear hv
  have HRw := Lib.hid (HRow.out.below HB.out)
  have c2 := HRw.out.cell (i := 2) rfl
  go_upto_if 19 with fail
  go_cut [4] from 19 to 25 (fun s4 wx => ∃ (v : Value) (L : List (List Nat)), v = s4 ∧ Hid (L = pPath (CookieV.t ⟨nm, vl, pt, ag, sc, ht, st⟩)) ∧ L.length ≤ 1 ∧ Hid (OwnT wx W.heap.size v (X0 :: L)) ∧ Hid (Below W.heap.size W wx))
  case first =>
    by_cases h : pt = ⟨#[]⟩
    · have e0 : (!pt.toList.isEmpty) = false := by rw [none_list h]; rfl
      rw [e0]
      have HE := Lib.hid (show pPath (CookieV.t ⟨nm, vl, pt, ag, sc, ht, st⟩) = [] by unfold pPath; exact if_pos (by rw [show ((CookieV.t ⟨nm, vl, pt, ag, sc, ht, st⟩)).path = nats pt from rfl, h]; rfl))
      go_wp2
      go_meet
      case rel => exact ⟨v, L, rfl, Lib.hid (by rw [HE.out, HL.out]), by omega, HO, HB⟩
    · have e0 : (!pt.toList.isEmpty) = true := by rw [some_list h]; rfl
      rw [e0]
      have k1 : ¬ 9223372036854775807 < 5 + pt.size := by omega
      have HE := Lib.hid (show pPath (CookieV.t ⟨nm, vl, pt, ag, sc, ht, st⟩) = [[80, 97, 116, 104, 61] ++ nats pt] by unfold pPath; exact if_neg (show ¬ nats pt = [] from fun e => h (by rw [← txt_nats pt, e]; rfl)))
      have HY := Lib.hid (show (⟨#[80, 97, 116, 104, 61]⟩ : ByteArray) ++ pt = txt ([80, 97, 116, 104, 61] ++ nats pt) by exact lit_app _ _ _ (by decide))
      have HO2 := Lib.hid (HO.out.alloc (.cells #[.string ((⟨#[80, 97, 116, 104, 61]⟩ : ByteArray) ++ pt)] 9))
      have HC2 := Lib.hid (one_cell wa ((⟨#[80, 97, 116, 104, 61]⟩ : ByteArray) ++ pt) ([80, 97, 116, 104, 61] ++ nats pt) 9 HY.out)
      have HB2 := Lib.hid (HB.out.alloc HB.out.size (.cells #[.string ((⟨#[80, 97, 116, 104, 61]⟩ : ByteArray) ++ pt)] 9))
      have HS2 := Lib.hid HB2.out.size
      go_wp2_with (at_builtin; refine app_one rfl _ _ rfl W.heap.size v (X0 :: L) rfl HO2.out ⟨_, 0, none⟩ 1 _ rfl HC2.out (by rw [List.length_cons]; omega) HS2.out ?_; intro v2 w2 hown2 hb2; replace HO2 := Lib.hid hown2; replace HB2 := Lib.hid (HB2.out.trans hb2); clear hown2 hb2)
      go_meet
      case rel => exact ⟨v2, L ++ [[80, 97, 116, 104, 61] ++ nats pt], rfl, Lib.hid (by rw [HE.out, HL.out]; rfl), by rw [List.length_append]; show L.length + 1 ≤ _; omega, Lib.hid (by have h := HO2.out; rwa [List.cons_append] at h), HB2⟩
  case rest =>
  clear HO HB HL hLl HRw c2
  obtain ⟨v, L, rfl, HL, hLl, HO, HB⟩ := hcut
  have HRw := Lib.hid (HRow.out.below HB.out)
  have c3 := HRw.out.cell (i := 3) rfl
  go_upto_if 28 with fail
  go_cut [4] from 28 to 35 (fun s4 wx => ∃ (v : Value) (L : List (List Nat)), v = s4 ∧ Hid (L = pPath (CookieV.t ⟨nm, vl, pt, ag, sc, ht, st⟩) ++ pAge (CookieV.t ⟨nm, vl, pt, ag, sc, ht, st⟩)) ∧ L.length ≤ 2 ∧ Hid (OwnT wx W.heap.size v (X0 :: L)) ∧ Hid (Below W.heap.size W wx))
  case first =>
    by_cases h : ag = -1
    · have t1 : (ag != -1) = false := by rw [bne_eq_false_iff_eq]; exact h
      rw [t1]
      have HE := Lib.hid (show pAge (CookieV.t ⟨nm, vl, pt, ag, sc, ht, st⟩) = [] by unfold pAge; exact if_pos h)
      go_wp2
      go_meet
      case rel => exact ⟨v, L, rfl, Lib.hid (by rw [HE.out, HL.out, List.append_nil]), by omega, HO, HB⟩
    · have t1 : (ag != -1) = true := by rw [bne_iff_ne]; exact h
      rw [t1]
      obtain ⟨n, rfl⟩ : ∃ n : Nat, ag = (n : Int) := ⟨ag.toNat, by omega⟩
      have hdl : (txt (dec n)).size ≤ 21 := by rw [txt_len]; exact decF_len 20 n
      obtain ⟨Dt, hDt⟩ : ∃ Dt, Dt = txt (dec n) := ⟨_, rfl⟩
      have HI := Lib.hid (fun w hp => itoa_call n (by unfold top; omega) w hp)
      rw [← hDt] at HI hdl
      have k1 : ¬ 9223372036854775807 < 8 + Dt.size := by omega
      have HE := Lib.hid (show pAge (CookieV.t ⟨nm, vl, pt, (n : Int), sc, ht, st⟩) = [[77, 97, 120, 45, 65, 103, 101, 61] ++ dec n] by unfold pAge; exact if_neg h)
      have HY := Lib.hid (show (⟨#[77, 97, 120, 45, 65, 103, 101, 61]⟩ : ByteArray) ++ Dt = txt ([77, 97, 120, 45, 65, 103, 101, 61] ++ dec n) by rw [hDt, show (⟨#[77, 97, 120, 45, 65, 103, 101, 61]⟩ : ByteArray) = txt [77, 97, 120, 45, 65, 103, 101, 61] by decide, txt_append])
      clear hDt h hdl
      go_wp2_with fail
      refine (HI.out _ (HP.out.below HB.out)).mono ?_
      rintro e w3 ⟨rfl, hb⟩
      replace HO := Lib.hid (HO.out.below hb)
      replace HB := Lib.hid (HB.out.trans (hb.mono HB.out.size))
      clear hb
      have HO2 := Lib.hid (HO.out.alloc (.cells #[.string ((⟨#[77, 97, 120, 45, 65, 103, 101, 61]⟩ : ByteArray) ++ Dt)] 9))
      have HC2 := Lib.hid (one_cell w3 ((⟨#[77, 97, 120, 45, 65, 103, 101, 61]⟩ : ByteArray) ++ Dt) ([77, 97, 120, 45, 65, 103, 101, 61] ++ dec n) 9 HY.out)
      have HB2 := Lib.hid (HB.out.alloc HB.out.size (.cells #[.string ((⟨#[77, 97, 120, 45, 65, 103, 101, 61]⟩ : ByteArray) ++ Dt)] 9))
      have HS2 := Lib.hid HB2.out.size
      go_wp2_with (at_builtin; refine app_one rfl _ _ rfl W.heap.size v (X0 :: L) rfl HO2.out ⟨_, 0, none⟩ 1 _ rfl HC2.out (by rw [List.length_cons]; omega) HS2.out ?_; intro v2 w2 hown2 hb2; replace HO2 := Lib.hid hown2; replace HB2 := Lib.hid (HB2.out.trans hb2); clear hown2 hb2)
      go_meet
      case rel => exact ⟨v2, L ++ [[77, 97, 120, 45, 65, 103, 101, 61] ++ dec n], rfl, Lib.hid (by rw [HE.out, HL.out]), by rw [List.length_append]; show L.length + 1 ≤ _; omega, Lib.hid (by have h := HO2.out; rwa [List.cons_append] at h), HB2⟩
  case rest =>
  clear HO HB HL hLl HRw c3
  obtain ⟨v, L, rfl, HL, hLl, HO, HB⟩ := hcut
  have HRw := Lib.hid (HRow.out.below HB.out)
  have c4 := HRw.out.cell (i := 4) rfl
  go_upto_if 37 with fail
  go_cut [4] from 37 to 40 (fun s4 wx => ∃ (v : Value) (L : List (List Nat)), v = s4 ∧ Hid (L = pPath (CookieV.t ⟨nm, vl, pt, ag, sc, ht, st⟩) ++ pAge (CookieV.t ⟨nm, vl, pt, ag, sc, ht, st⟩) ++ pSec (CookieV.t ⟨nm, vl, pt, ag, sc, ht, st⟩)) ∧ L.length ≤ 3 ∧ Hid (OwnT wx W.heap.size v (X0 :: L)) ∧ Hid (Below W.heap.size W wx))
  case first =>
    cases sc with
    | false =>
      have HE := Lib.hid (show pSec (CookieV.t ⟨nm, vl, pt, ag, false, ht, st⟩) = [] by unfold pSec; rfl)
      go_wp2
      go_meet
      case rel => exact ⟨v, L, rfl, Lib.hid (by rw [HE.out, HL.out, List.append_nil]), by omega, HO, HB⟩
    | true =>
      have HE := Lib.hid (show pSec (CookieV.t ⟨nm, vl, pt, ag, true, ht, st⟩) = [[83, 101, 99, 117, 114, 101]] by unfold pSec; rfl)
      have HY := Lib.hid (show (⟨#[83, 101, 99, 117, 114, 101]⟩ : ByteArray) = txt ([83, 101, 99, 117, 114, 101]) by decide)
      have HO2 := Lib.hid (HO.out.alloc (.cells #[.string ((⟨#[83, 101, 99, 117, 114, 101]⟩ : ByteArray))] 9))
      have HC2 := Lib.hid (one_cell wc ((⟨#[83, 101, 99, 117, 114, 101]⟩ : ByteArray)) ([83, 101, 99, 117, 114, 101]) 9 HY.out)
      have HB2 := Lib.hid (HB.out.alloc HB.out.size (.cells #[.string ((⟨#[83, 101, 99, 117, 114, 101]⟩ : ByteArray))] 9))
      have HS2 := Lib.hid HB2.out.size
      go_wp2_with (at_builtin; refine app_one rfl _ _ rfl W.heap.size v (X0 :: L) rfl HO2.out ⟨_, 0, none⟩ 1 _ rfl HC2.out (by rw [List.length_cons]; omega) HS2.out ?_; intro v2 w2 hown2 hb2; replace HO2 := Lib.hid hown2; replace HB2 := Lib.hid (HB2.out.trans hb2); clear hown2 hb2)
      go_meet
      case rel => exact ⟨v2, L ++ [[83, 101, 99, 117, 114, 101]], rfl, Lib.hid (by rw [HE.out, HL.out]), by rw [List.length_append]; show L.length + 1 ≤ _; omega, Lib.hid (by have h := HO2.out; rwa [List.cons_append] at h), HB2⟩
  case rest =>
  clear HO HB HL hLl HRw c4
  obtain ⟨v, L, rfl, HL, hLl, HO, HB⟩ := hcut
  have HRw := Lib.hid (HRow.out.below HB.out)
  have c5 := HRw.out.cell (i := 5) rfl
  go_upto_if 42 with fail
  go_cut [4] from 42 to 45 (fun s4 wx => ∃ (v : Value) (L : List (List Nat)), v = s4 ∧ Hid (L = pPath (CookieV.t ⟨nm, vl, pt, ag, sc, ht, st⟩) ++ pAge (CookieV.t ⟨nm, vl, pt, ag, sc, ht, st⟩) ++ pSec (CookieV.t ⟨nm, vl, pt, ag, sc, ht, st⟩) ++ pHttp (CookieV.t ⟨nm, vl, pt, ag, sc, ht, st⟩)) ∧ L.length ≤ 4 ∧ Hid (OwnT wx W.heap.size v (X0 :: L)) ∧ Hid (Below W.heap.size W wx))
  case first =>
    cases ht with
    | false =>
      have HE := Lib.hid (show pHttp (CookieV.t ⟨nm, vl, pt, ag, sc, false, st⟩) = [] by unfold pHttp; rfl)
      go_wp2
      go_meet
      case rel => exact ⟨v, L, rfl, Lib.hid (by rw [HE.out, HL.out, List.append_nil]), by omega, HO, HB⟩
    | true =>
      have HE := Lib.hid (show pHttp (CookieV.t ⟨nm, vl, pt, ag, sc, true, st⟩) = [[72, 116, 116, 112, 79, 110, 108, 121]] by unfold pHttp; rfl)
      have HY := Lib.hid (show (⟨#[72, 116, 116, 112, 79, 110, 108, 121]⟩ : ByteArray) = txt ([72, 116, 116, 112, 79, 110, 108, 121]) by decide)
      have HO2 := Lib.hid (HO.out.alloc (.cells #[.string ((⟨#[72, 116, 116, 112, 79, 110, 108, 121]⟩ : ByteArray))] 9))
      have HC2 := Lib.hid (one_cell wc ((⟨#[72, 116, 116, 112, 79, 110, 108, 121]⟩ : ByteArray)) ([72, 116, 116, 112, 79, 110, 108, 121]) 9 HY.out)
      have HB2 := Lib.hid (HB.out.alloc HB.out.size (.cells #[.string ((⟨#[72, 116, 116, 112, 79, 110, 108, 121]⟩ : ByteArray))] 9))
      have HS2 := Lib.hid HB2.out.size
      go_wp2_with (at_builtin; refine app_one rfl _ _ rfl W.heap.size v (X0 :: L) rfl HO2.out ⟨_, 0, none⟩ 1 _ rfl HC2.out (by rw [List.length_cons]; omega) HS2.out ?_; intro v2 w2 hown2 hb2; replace HO2 := Lib.hid hown2; replace HB2 := Lib.hid (HB2.out.trans hb2); clear hown2 hb2)
      go_meet
      case rel => exact ⟨v2, L ++ [[72, 116, 116, 112, 79, 110, 108, 121]], rfl, Lib.hid (by rw [HE.out, HL.out]), by rw [List.length_append]; show L.length + 1 ≤ _; omega, Lib.hid (by have h := HO2.out; rwa [List.cons_append] at h), HB2⟩
  case rest =>
  clear HO HB HL hLl HRw c5
  obtain ⟨v, L, rfl, HL, hLl, HO, HB⟩ := hcut
  by_cases h1 : st = 1
  · subst h1
    have HE := Lib.hid (show pSite (CookieV.t ⟨nm, vl, pt, ag, sc, ht, 1⟩) = [[83, 97, 109, 101, 83, 105, 116, 101, 61, 83, 116, 114, 105, 99, 116]] by unfold pSite; rfl)
    have HRw := Lib.hid (HRow.out.below HB.out)
    have c6 := HRw.out.cell (i := 6) rfl
    have HY := Lib.hid (show (⟨#[83, 97, 109, 101, 83, 105, 116, 101, 61, 83, 116, 114, 105, 99, 116]⟩ : ByteArray) = txt ([83, 97, 109, 101, 83, 105, 116, 101, 61, 83, 116, 114, 105, 99, 116]) by decide)
    have HO2 := Lib.hid (HO.out.alloc (.cells #[.string ((⟨#[83, 97, 109, 101, 83, 105, 116, 101, 61, 83, 116, 114, 105, 99, 116]⟩ : ByteArray))] 9))
    have HC2 := Lib.hid (one_cell wc ((⟨#[83, 97, 109, 101, 83, 105, 116, 101, 61, 83, 116, 114, 105, 99, 116]⟩ : ByteArray)) ([83, 97, 109, 101, 83, 105, 116, 101, 61, 83, 116, 114, 105, 99, 116]) 9 HY.out)
    have HB2 := Lib.hid (HB.out.alloc HB.out.size (.cells #[.string ((⟨#[83, 97, 109, 101, 83, 105, 116, 101, 61, 83, 116, 114, 105, 99, 116]⟩ : ByteArray))] 9))
    have HS2 := Lib.hid HB2.out.size
    go_wp2_with (at_builtin; refine app_one rfl _ _ rfl W.heap.size v (X0 :: L) rfl HO2.out ⟨_, 0, none⟩ 1 _ rfl HC2.out (by rw [List.length_cons]; omega) HS2.out ?_; intro v2 w2 hown2 hb2; replace HO2 := Lib.hid hown2; replace HB2 := Lib.hid (HB2.out.trans hb2); clear hown2 hb2)
    obtain ⟨M, hM⟩ : ∃ M, M = L ++ [[83, 97, 109, 101, 83, 105, 116, 101, 61, 83, 116, 114, 105, 99, 116]] := ⟨_, rfl⟩
    have HM := Lib.hid (show M = more (CookieV.t ⟨nm, vl, pt, ag, sc, ht, 1⟩) by rw [hM, HL.out]; unfold more; rw [HE.out])
    have HO3 := Lib.hid (show OwnT w2 W.heap.size v2 (X0 :: M) by rw [hM]; have h := HO2.out; rwa [List.cons_append] at h)
    have hMl : M.length ≤ 5 := by rw [hM]; rw [List.length_append]; show L.length + 1 ≤ 5; omega
    obtain ⟨q, cp, hvq, _, hqw, hqc, _, hqs, _⟩ := OwnsM.open HO3.out (Nat.succ_pos _)
    subst hvq
    refine (join_call X0 M q cp _ (fun j y hy => by rw [hqs j (by have := (List.getElem?_eq_some_iff.1 hy).1; exact this)]; unfold txtVals; rw [List.getElem?_map, hy]; rfl) hqw hqc (by omega) (fun y hy => by
      rcases List.mem_cons.1 hy with rfl | hy
      · have := HX.out; omega
      · rw [HM.out] at hy; have := more_len _ (by rw [show ((CookieV.t ⟨nm, vl, pt, ag, sc, ht, 1⟩)).path = nats pt from rfl, nats_len]; exact z3) y hy; omega)).mono ?_
    rintro e w4 ⟨rfl, hb⟩
    have HBe := Lib.hid (HBW.out.trans ((HB2.out.trans (hb.mono HB2.out.size)).mono HBW.out.size))
    have HEnd := Lib.hid (show X0 ++ (M.flatMap fun a => 59 :: 32 :: a) = Hd by rw [HH.out, HM.out])
    rw [HEnd.out]
    clear hb hqs
    go_wp2
    go_ret2
    exact ⟨rfl, HBe.out⟩
  by_cases h2 : st = 2
  · subst h2
    have HE := Lib.hid (show pSite (CookieV.t ⟨nm, vl, pt, ag, sc, ht, 2⟩) = [[83, 97, 109, 101, 83, 105, 116, 101, 61, 76, 97, 120]] by unfold pSite; rfl)
    have HRw := Lib.hid (HRow.out.below HB.out)
    have c6 := HRw.out.cell (i := 6) rfl
    have HY := Lib.hid (show (⟨#[83, 97, 109, 101, 83, 105, 116, 101, 61, 76, 97, 120]⟩ : ByteArray) = txt ([83, 97, 109, 101, 83, 105, 116, 101, 61, 76, 97, 120]) by decide)
    have HO2 := Lib.hid (HO.out.alloc (.cells #[.string ((⟨#[83, 97, 109, 101, 83, 105, 116, 101, 61, 76, 97, 120]⟩ : ByteArray))] 9))
    have HC2 := Lib.hid (one_cell wc ((⟨#[83, 97, 109, 101, 83, 105, 116, 101, 61, 76, 97, 120]⟩ : ByteArray)) ([83, 97, 109, 101, 83, 105, 116, 101, 61, 76, 97, 120]) 9 HY.out)
    have HB2 := Lib.hid (HB.out.alloc HB.out.size (.cells #[.string ((⟨#[83, 97, 109, 101, 83, 105, 116, 101, 61, 76, 97, 120]⟩ : ByteArray))] 9))
    have HS2 := Lib.hid HB2.out.size
    go_wp2_with (at_builtin; refine app_one rfl _ _ rfl W.heap.size v (X0 :: L) rfl HO2.out ⟨_, 0, none⟩ 1 _ rfl HC2.out (by rw [List.length_cons]; omega) HS2.out ?_; intro v2 w2 hown2 hb2; replace HO2 := Lib.hid hown2; replace HB2 := Lib.hid (HB2.out.trans hb2); clear hown2 hb2)
    obtain ⟨M, hM⟩ : ∃ M, M = L ++ [[83, 97, 109, 101, 83, 105, 116, 101, 61, 76, 97, 120]] := ⟨_, rfl⟩
    have HM := Lib.hid (show M = more (CookieV.t ⟨nm, vl, pt, ag, sc, ht, 2⟩) by rw [hM, HL.out]; unfold more; rw [HE.out])
    have HO3 := Lib.hid (show OwnT w2 W.heap.size v2 (X0 :: M) by rw [hM]; have h := HO2.out; rwa [List.cons_append] at h)
    have hMl : M.length ≤ 5 := by rw [hM]; rw [List.length_append]; show L.length + 1 ≤ 5; omega
    obtain ⟨q, cp, hvq, _, hqw, hqc, _, hqs, _⟩ := OwnsM.open HO3.out (Nat.succ_pos _)
    subst hvq
    refine (join_call X0 M q cp _ (fun j y hy => by rw [hqs j (by have := (List.getElem?_eq_some_iff.1 hy).1; exact this)]; unfold txtVals; rw [List.getElem?_map, hy]; rfl) hqw hqc (by omega) (fun y hy => by
      rcases List.mem_cons.1 hy with rfl | hy
      · have := HX.out; omega
      · rw [HM.out] at hy; have := more_len _ (by rw [show ((CookieV.t ⟨nm, vl, pt, ag, sc, ht, 2⟩)).path = nats pt from rfl, nats_len]; exact z3) y hy; omega)).mono ?_
    rintro e w4 ⟨rfl, hb⟩
    have HBe := Lib.hid (HBW.out.trans ((HB2.out.trans (hb.mono HB2.out.size)).mono HBW.out.size))
    have HEnd := Lib.hid (show X0 ++ (M.flatMap fun a => 59 :: 32 :: a) = Hd by rw [HH.out, HM.out])
    rw [HEnd.out]
    clear hb hqs
    go_wp2
    go_ret2
    exact ⟨rfl, HBe.out⟩
  by_cases h3 : st = 3
  · subst h3
    have HE := Lib.hid (show pSite (CookieV.t ⟨nm, vl, pt, ag, sc, ht, 3⟩) = [[83, 97, 109, 101, 83, 105, 116, 101, 61, 78, 111, 110, 101]] by unfold pSite; rfl)
    have HRw := Lib.hid (HRow.out.below HB.out)
    have c6 := HRw.out.cell (i := 6) rfl
    have HY := Lib.hid (show (⟨#[83, 97, 109, 101, 83, 105, 116, 101, 61, 78, 111, 110, 101]⟩ : ByteArray) = txt ([83, 97, 109, 101, 83, 105, 116, 101, 61, 78, 111, 110, 101]) by decide)
    have HO2 := Lib.hid (HO.out.alloc (.cells #[.string ((⟨#[83, 97, 109, 101, 83, 105, 116, 101, 61, 78, 111, 110, 101]⟩ : ByteArray))] 9))
    have HC2 := Lib.hid (one_cell wc ((⟨#[83, 97, 109, 101, 83, 105, 116, 101, 61, 78, 111, 110, 101]⟩ : ByteArray)) ([83, 97, 109, 101, 83, 105, 116, 101, 61, 78, 111, 110, 101]) 9 HY.out)
    have HB2 := Lib.hid (HB.out.alloc HB.out.size (.cells #[.string ((⟨#[83, 97, 109, 101, 83, 105, 116, 101, 61, 78, 111, 110, 101]⟩ : ByteArray))] 9))
    have HS2 := Lib.hid HB2.out.size
    go_wp2_with (at_builtin; refine app_one rfl _ _ rfl W.heap.size v (X0 :: L) rfl HO2.out ⟨_, 0, none⟩ 1 _ rfl HC2.out (by rw [List.length_cons]; omega) HS2.out ?_; intro v2 w2 hown2 hb2; replace HO2 := Lib.hid hown2; replace HB2 := Lib.hid (HB2.out.trans hb2); clear hown2 hb2)
    obtain ⟨M, hM⟩ : ∃ M, M = L ++ [[83, 97, 109, 101, 83, 105, 116, 101, 61, 78, 111, 110, 101]] := ⟨_, rfl⟩
    have HM := Lib.hid (show M = more (CookieV.t ⟨nm, vl, pt, ag, sc, ht, 3⟩) by rw [hM, HL.out]; unfold more; rw [HE.out])
    have HO3 := Lib.hid (show OwnT w2 W.heap.size v2 (X0 :: M) by rw [hM]; have h := HO2.out; rwa [List.cons_append] at h)
    have hMl : M.length ≤ 5 := by rw [hM]; rw [List.length_append]; show L.length + 1 ≤ 5; omega
    obtain ⟨q, cp, hvq, _, hqw, hqc, _, hqs, _⟩ := OwnsM.open HO3.out (Nat.succ_pos _)
    subst hvq
    refine (join_call X0 M q cp _ (fun j y hy => by rw [hqs j (by have := (List.getElem?_eq_some_iff.1 hy).1; exact this)]; unfold txtVals; rw [List.getElem?_map, hy]; rfl) hqw hqc (by omega) (fun y hy => by
      rcases List.mem_cons.1 hy with rfl | hy
      · have := HX.out; omega
      · rw [HM.out] at hy; have := more_len _ (by rw [show ((CookieV.t ⟨nm, vl, pt, ag, sc, ht, 3⟩)).path = nats pt from rfl, nats_len]; exact z3) y hy; omega)).mono ?_
    rintro e w4 ⟨rfl, hb⟩
    have HBe := Lib.hid (HBW.out.trans ((HB2.out.trans (hb.mono HB2.out.size)).mono HBW.out.size))
    have HEnd := Lib.hid (show X0 ++ (M.flatMap fun a => 59 :: 32 :: a) = Hd by rw [HH.out, HM.out])
    rw [HEnd.out]
    clear hb hqs
    go_wp2
    go_ret2
    exact ⟨rfl, HBe.out⟩
  have t1 : (st == 1) = false := by rw [beq_eq_false_iff_ne]; exact h1
  have t2 : (st == 2) = false := by rw [beq_eq_false_iff_ne]; exact h2
  have t3 : (st == 3) = false := by rw [beq_eq_false_iff_ne]; exact h3
  have HE := Lib.hid (show pSite (CookieV.t ⟨nm, vl, pt, ag, sc, ht, st⟩) = [] by unfold pSite; exact (if_neg h1).trans ((if_neg h2).trans (if_neg h3)))
  have HRw := Lib.hid (HRow.out.below HB.out)
  have c6 := HRw.out.cell (i := 6) rfl
  go_wp2_with fail
  obtain ⟨M, hM⟩ : ∃ M, M = L := ⟨_, rfl⟩
  have HM := Lib.hid (show M = more (CookieV.t ⟨nm, vl, pt, ag, sc, ht, st⟩) by rw [hM, HL.out]; unfold more; rw [HE.out, List.append_nil])
  have HO3 := Lib.hid (show OwnT wc W.heap.size v (X0 :: M) by rw [hM]; exact HO.out)
  have hMl : M.length ≤ 5 := by rw [hM]; omega
  obtain ⟨q, cp, hvq, _, hqw, hqc, _, hqs, _⟩ := OwnsM.open HO3.out (Nat.succ_pos _)
  subst hvq
  refine (join_call X0 M q cp _ (fun j y hy => by rw [hqs j (by have := (List.getElem?_eq_some_iff.1 hy).1; exact this)]; unfold txtVals; rw [List.getElem?_map, hy]; rfl) hqw hqc (by omega) (fun y hy => by
    rcases List.mem_cons.1 hy with rfl | hy
    · have := HX.out; omega
    · rw [HM.out] at hy; have := more_len _ (by rw [show ((CookieV.t ⟨nm, vl, pt, ag, sc, ht, st⟩)).path = nats pt from rfl, nats_len]; exact z3) y hy; omega)).mono ?_
  rintro e w4 ⟨rfl, hb⟩
  have HBe := Lib.hid (HBW.out.trans ((HB.out.trans (hb.mono HB.out.size)).mono HBW.out.size))
  have HEnd := Lib.hid (show X0 ++ (M.flatMap fun a => 59 :: 32 :: a) = Hd by rw [HH.out, HM.out])
  rw [HEnd.out]
  clear hb hqs
  go_wp2
  go_ret2
  exact ⟨rfl, HBe.out⟩
end Go.Proofs.YtlgofepmdjlpgaaDoor
