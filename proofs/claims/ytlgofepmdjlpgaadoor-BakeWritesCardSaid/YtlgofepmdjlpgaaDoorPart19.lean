/-
  Texts of one claim, merged.
  BakeRefWrite: The document's own Write of chapter 14. The conditions: texts of at most 1000 bytes, a number of at most 2^40.
  BakeWrites: BakeWrites' contract. The conditions: the program's contracts; numbers in their bounds.
-/
import Derived.Test.YtlgofepmdjlpgaaDoorPart17
import Derived.Test.YtlgofepmdjlpgaaDoorResults
import Derived.Deep.CutRange
import Derived.Test.YtlgofepmdjlpgaaDoorPart18
import Derived.Test.YtlgofepmdjlpgaaDoorBakeRefRight
namespace Go.Proofs.YtlgofepmdjlpgaaDoor
open Go.RowKit TextNat BakeMath

def semi (l : List (List Nat)) : List Nat := l.flatMap fun a => 59 :: a
theorem semi_nil : semi [] = [] := rfl
theorem semi_one (a : List Nat) : semi [a] = 59 :: a := by simp [semi]
theorem header_parts (c : CookieT) : header c = c.name ++ 61 :: c.value ++ semi (aPath c) ++ semi (aAge c) ++ semi (aSec c) ++ semi (aHttp c) ++ semi (aSite c) := by
  unfold header attrsOf semi
  simp only [List.flatMap_append, List.append_assoc]
theorem semi_age {c : CookieT} (h : 0 ≤ c.age) : semi (aAge c) = 59 :: ([32, 77, 97, 120, 45, 65, 103, 101, 61] ++ dec c.age.toNat) := by
  unfold aAge
  rw [if_pos h, semi_one]
theorem semi_age0 {c : CookieT} (h : ¬ 0 ≤ c.age) : semi (aAge c) = [] := by
  unfold aAge
  rw [if_neg h, semi_nil]
theorem semi_site0 {c : CookieT} (h1 : ¬ c.site = 1) (h2 : ¬ c.site = 2) (h3 : ¬ c.site = 3) : semi (aSite c) = [] := by
  unfold aSite
  rw [if_neg h1, if_neg h2, if_neg h3, semi_nil]
theorem txt_app {S : ByteArray} {X : List Nat} (h : S = txt X) (T : ByteArray) (Y : List Nat) (hT : T = txt Y) : S ++ T = txt (X ++ Y) := by rw [h, hT, txt_append]
set_option maxRecDepth 100000 in
set_option maxHeartbeats 8000000 in
theorem refWrite14 (x : CookieV) (w : World) (hx : x.short) (ha : x.age ≤ 1099511627776) :
    Calls Tryd.prog 11 #[x.val] w fun e w' => e = .returned (.string (txt (header x.t))) ∧ Below w.heap.size w w' := by
  have HH := Lib.hid (header_parts x.t)
  obtain ⟨nm, vl, pt, ag, sc, ht, st⟩ := x
  obtain ⟨hn, hv, hp⟩ := hx
  simp only [CookieV.val] at *
  have z1 : nm.size ≤ 1000 := hn
  have z2 : vl.size ≤ 1000 := hv
  have z3 : pt.size ≤ 1000 := hp
  have HAg := Lib.hid (show ag ≤ 1099511627776 from ha)
  clear hn hv hp ha
  obtain ⟨X, hX⟩ : ∃ X, X = header (CookieV.t ⟨nm, vl, pt, ag, sc, ht, st⟩) := ⟨_, rfl⟩
  rw [← hX] at HH ⊢
  clear hX
  have HRow := Lib.hid (show Lies (w.alloc (.cells #[.string nm, .string vl, .string pt, .int .i64 ag, .bool sc, .bool ht, .int .i64 st] 30)) w.heap.size [.string nm, .string vl, .string pt, .int .i64 ag, .bool sc, .bool ht, .int .i64 st] 30 from Lies.new w _ _)
  have HB := Lib.hid (show Below w.heap.size w (w.alloc (.cells #[.string nm, .string vl, .string pt, .int .i64 ag, .bool sc, .bool ht, .int .i64 st] 30)) from (Below.refl _ _).alloc (Nat.le_refl _) _)
  have c0 := HRow.out.cell (i := 0) rfl; have c1 := HRow.out.cell (i := 1) rfl; have c2 := HRow.out.cell (i := 2) rfl
  have k1 : ¬ 9223372036854775807 < nm.size + 1 := by omega
  have k2 : ¬ 9223372036854775807 < nm.size + 1 + vl.size := by omega
  go_enter Tryd.func11, Tryd.ntmps11
  go_upto_if 13 with fail
  obtain ⟨W, hW⟩ : ∃ W, W = w.alloc (.cells #[.string nm, .string vl, .string pt, .int .i64 ag, .bool sc, .bool ht, .int .i64 st] 30) := ⟨_, rfl⟩
  rw [← hW] at HRow HB ⊢
  obtain ⟨g, hg⟩ : ∃ g, g = w.heap.size := ⟨_, rfl⟩
  have HBg := Lib.hid HB.out
  rw [← hg] at HRow ⊢
  clear hW hg k1 k2 c0 c1 c2 HB
  obtain ⟨S0, hS0⟩ : ∃ S0, S0 = nm ++ ⟨#[61]⟩ ++ vl := ⟨_, rfl⟩
  have H0 := Lib.hid (show S0 = txt (nats nm ++ 61 :: nats vl) by
    rw [hS0, ← txt_nats nm, ← txt_nats vl, nats_txt _ (nats_lt nm), nats_txt _ (nats_lt vl), show (⟨#[61]⟩ : ByteArray) = txt [61] by decide, txt_append, txt_append, List.append_assoc]
    rfl)
  have y0 : S0.size ≤ 2001 := by rw [hS0, ByteArray.size_append, ByteArray.size_append]; show nm.size + 1 + vl.size ≤ 2001; omega
  rw [← hS0]
  clear hS0
  go_cut [3] from 13 to 18 (fun s3 wx => ∃ S : ByteArray, s3 = .string S ∧ Hid (S = txt (nats nm ++ 61 :: nats vl ++ semi (aPath (CookieV.t ⟨nm, vl, pt, ag, sc, ht, st⟩)))) ∧ S.size ≤ 3008 ∧ Hid (Below w.heap.size w wx) ∧ Hid (Lies wx g [.string nm, .string vl, .string pt, .int .i64 ag, .bool sc, .bool ht, .int .i64 st] 30))
  case first =>
    have c2 := HRow.out.cell (i := 2) rfl
    by_cases h : 0 < pt.size
    · have t1 : decide ((0 : Int) < (pt.size : Int)) = true := decide_eq_true (by omega)
      have t1' : decide (0 < pt.size) = true := decide_eq_true h
      have k1 : ¬ 9223372036854775807 < S0.size + 7 := by omega
      have k2 : ¬ 9223372036854775807 < S0.size + 7 + pt.size := by omega
      have HP := Lib.hid (show semi (aPath (CookieV.t ⟨nm, vl, pt, ag, sc, ht, st⟩)) = 59 :: ([32, 80, 97, 116, 104, 61] ++ nats pt) by
        unfold aPath
        exact (congrArg semi (if_neg (fun e => by have h2 := congrArg List.length e; change (nats pt).length = 0 at h2; rw [nats_len] at h2; omega))).trans (semi_one _))
      go_wp2
      go_meet
      case rel => exact ⟨_, rfl, Lib.hid (by rw [HP.out, H0.out, ← txt_nats pt, show (⟨#[59, 32, 80, 97, 116, 104, 61]⟩ : ByteArray) = txt [59, 32, 80, 97, 116, 104, 61] by decide, txt_append, txt_append, nats_txt _ (nats_lt pt), List.append_assoc (nats nm ++ 61 :: nats vl)]; rfl), by rw [ByteArray.size_append, ByteArray.size_append]; show S0.size + 7 + pt.size ≤ _; omega, HBg, HRow⟩
    · have t1 : decide ((0 : Int) < (pt.size : Int)) = false := decide_eq_false (by omega)
      have t1' : decide (0 < pt.size) = false := decide_eq_false h
      have HP := Lib.hid (show semi (aPath (CookieV.t ⟨nm, vl, pt, ag, sc, ht, st⟩)) = [] by
        unfold aPath
        exact (congrArg semi (if_pos (List.length_eq_zero_iff.1 (show (nats pt).length = 0 by rw [nats_len]; omega)))).trans semi_nil)
      go_wp2
      go_meet
      case rel => exact ⟨_, rfl, Lib.hid (by rw [HP.out, List.append_nil]; exact H0.out), by omega, HBg, HRow⟩
  case rest =>
  obtain ⟨S1, rfl, H1, y1, HBg2, HRow2⟩ := hcut
  clear HBg HRow
  obtain ⟨HBg, HRow⟩ := And.intro HBg2 HRow2
  clear HBg2 HRow2 y0
  have c3 := HRow.out.cell (i := 3) rfl
  go_upto_if 21 with fail
  go_cut [3] from 21 to 27 (fun s3 wx => ∃ S : ByteArray, s3 = .string S ∧ Hid (S = txt (nats nm ++ 61 :: nats vl ++ semi (aPath (CookieV.t ⟨nm, vl, pt, ag, sc, ht, st⟩)) ++ semi (aAge (CookieV.t ⟨nm, vl, pt, ag, sc, ht, st⟩)))) ∧ S.size ≤ 3039 ∧ Hid (Below w.heap.size w wx) ∧ Hid (Lies wx g [.string nm, .string vl, .string pt, .int .i64 ag, .bool sc, .bool ht, .int .i64 st] 30))
  case first =>
    have c3 := HRow.out.cell (i := 3) rfl
    by_cases h : 0 ≤ ag
    · obtain ⟨n, rfl⟩ : ∃ n : Nat, ag = (n : Int) := ⟨ag.toNat, by omega⟩
      have hn := HAg.out
      have t1 : decide ((0 : Int) ≤ (n : Int)) = true := decide_eq_true h
      have HDg := Lib.hid (fun w => refDigits n w (by omega))
      have hdl : (txt (dec n)).size ≤ 21 := by rw [txt_len]; exact decF_len 20 n
      obtain ⟨Dt, hDt⟩ : ∃ Dt, Dt = txt (dec n) := ⟨_, rfl⟩
      rw [← hDt] at HDg hdl
      have HDt := Lib.hid hDt
      have k1 : ¬ 9223372036854775807 < S1.size + 10 := by omega
      have k2 : ¬ 9223372036854775807 < S1.size + 10 + Dt.size := by omega
      have HP := Lib.hid (show semi (aAge (CookieV.t ⟨nm, vl, pt, (n : Int), sc, ht, st⟩)) = 59 :: ([32, 77, 97, 120, 45, 65, 103, 101, 61] ++ dec n) from semi_age (c := CookieV.t ⟨nm, vl, pt, (n : Int), sc, ht, st⟩) h)
      clear hDt hn
      go_wp2_with fail
      refine (HDg.out _).mono ?_
      rintro e w9 ⟨rfl, hb⟩
      replace HBg := Lib.hid (HBg.out.trans (hb.mono HBg.out.size))
      replace HRow := Lib.hid (HRow.out.below hb)
      clear hb
      go_wp2
      go_meet
      case rel => exact ⟨_, rfl, Lib.hid (by rw [HP.out, H1.out, HDt.out, show (⟨#[59, 32, 77, 97, 120, 45, 65, 103, 101, 61]⟩ : ByteArray) = txt [59, 32, 77, 97, 120, 45, 65, 103, 101, 61] by decide, txt_append, txt_append, List.append_assoc (nats nm ++ 61 :: nats vl ++ _)]; rfl), by rw [ByteArray.size_append, ByteArray.size_append]; show S1.size + 10 + Dt.size ≤ _; omega, HBg, HRow⟩
    · have t1 : decide ((0 : Int) ≤ ag) = false := decide_eq_false h
      have HP := Lib.hid (show semi (aAge (CookieV.t ⟨nm, vl, pt, ag, sc, ht, st⟩)) = [] from semi_age0 h)
      go_wp2
      go_meet
      case rel => exact ⟨_, rfl, Lib.hid (by rw [HP.out, List.append_nil]; exact H1.out), by omega, HBg, HRow⟩
  case rest =>
  obtain ⟨S2, rfl, H2, y2, HBg2, HRow2⟩ := hcut
  clear HBg HRow
  obtain ⟨HBg, HRow⟩ := And.intro HBg2 HRow2
  clear HBg2 HRow2 y1
  have c4 := HRow.out.cell (i := 4) rfl
  go_upto_if 29 with fail
  go_cut [3] from 29 to 31 (fun s3 wx => ∃ S : ByteArray, s3 = .string S ∧ Hid (S = txt (nats nm ++ 61 :: nats vl ++ semi (aPath (CookieV.t ⟨nm, vl, pt, ag, sc, ht, st⟩)) ++ semi (aAge (CookieV.t ⟨nm, vl, pt, ag, sc, ht, st⟩)) ++ semi (aSec (CookieV.t ⟨nm, vl, pt, ag, sc, ht, st⟩)))) ∧ S.size ≤ 3047 ∧ Hid (Below w.heap.size w wx) ∧ Hid (Lies wx g [.string nm, .string vl, .string pt, .int .i64 ag, .bool sc, .bool ht, .int .i64 st] 30))
  case first =>
    have c4 := HRow.out.cell (i := 4) rfl
    cases sc with
    | true =>
      have k1 : ¬ 9223372036854775807 < S2.size + 8 := by omega
      go_wp2
      go_meet
      case rel => exact ⟨_, rfl, Lib.hid (by rw [H2.out, show (⟨#[59, 32, 83, 101, 99, 117, 114, 101]⟩ : ByteArray) = txt [59, 32, 83, 101, 99, 117, 114, 101] by decide, txt_append]; rfl), by rw [ByteArray.size_append]; show S2.size + 8 ≤ _; omega, HBg, HRow⟩
    | false =>
      go_wp2
      go_meet
      case rel => exact ⟨_, rfl, Lib.hid (by rw [H2.out]; exact congrArg txt (List.append_nil _).symm), by omega, HBg, HRow⟩
  case rest =>
  obtain ⟨S3, rfl, H3, y3, HBg2, HRow2⟩ := hcut
  clear HBg HRow
  obtain ⟨HBg, HRow⟩ := And.intro HBg2 HRow2
  clear HBg2 HRow2 y2
  have c5 := HRow.out.cell (i := 5) rfl
  go_upto_if 33 with fail
  go_cut [3] from 33 to 35 (fun s3 wx => ∃ S : ByteArray, s3 = .string S ∧ Hid (S = txt (nats nm ++ 61 :: nats vl ++ semi (aPath (CookieV.t ⟨nm, vl, pt, ag, sc, ht, st⟩)) ++ semi (aAge (CookieV.t ⟨nm, vl, pt, ag, sc, ht, st⟩)) ++ semi (aSec (CookieV.t ⟨nm, vl, pt, ag, sc, ht, st⟩)) ++ semi (aHttp (CookieV.t ⟨nm, vl, pt, ag, sc, ht, st⟩)))) ∧ S.size ≤ 3057 ∧ Hid (Below w.heap.size w wx) ∧ Hid (Lies wx g [.string nm, .string vl, .string pt, .int .i64 ag, .bool sc, .bool ht, .int .i64 st] 30))
  case first =>
    have c5 := HRow.out.cell (i := 5) rfl
    cases ht with
    | true =>
      have k1 : ¬ 9223372036854775807 < S3.size + 10 := by omega
      go_wp2
      go_meet
      case rel => exact ⟨_, rfl, Lib.hid (by rw [H3.out, show (⟨#[59, 32, 72, 116, 116, 112, 79, 110, 108, 121]⟩ : ByteArray) = txt [59, 32, 72, 116, 116, 112, 79, 110, 108, 121] by decide, txt_append]; rfl), by rw [ByteArray.size_append]; show S3.size + 10 ≤ _; omega, HBg, HRow⟩
    | false =>
      go_wp2
      go_meet
      case rel => exact ⟨_, rfl, Lib.hid (by rw [H3.out]; exact congrArg txt (List.append_nil _).symm), by omega, HBg, HRow⟩
  case rest =>
  obtain ⟨S4, rfl, H4, y4, HBg2, HRow2⟩ := hcut
  clear HBg HRow
  obtain ⟨HBg, HRow⟩ := And.intro HBg2 HRow2
  clear HBg2 HRow2 y3
  have c6 := HRow.out.cell (i := 6) rfl
  by_cases e1 : st = 1
  · subst e1
    have k1 : ¬ 9223372036854775807 < S4.size + 17 := by omega
    go_wp2
    go_ret
    exact ⟨by rw [HH.out, H4.out, show (⟨#[59, 32, 83, 97, 109, 101, 83, 105, 116, 101, 61, 83, 116, 114, 105, 99, 116]⟩ : ByteArray) = txt [59, 32, 83, 97, 109, 101, 83, 105, 116, 101, 61, 83, 116, 114, 105, 99, 116] by decide, txt_append]; rfl, HBg.out⟩
  have s1 : (st == 1) = false := by rw [beq_eq_false_iff_ne]; exact e1
  by_cases e2 : st = 2
  · subst e2
    have k1 : ¬ 9223372036854775807 < S4.size + 14 := by omega
    go_wp2
    go_ret
    exact ⟨by rw [HH.out, H4.out, show (⟨#[59, 32, 83, 97, 109, 101, 83, 105, 116, 101, 61, 76, 97, 120]⟩ : ByteArray) = txt [59, 32, 83, 97, 109, 101, 83, 105, 116, 101, 61, 76, 97, 120] by decide, txt_append]; rfl, HBg.out⟩
  have s2 : (st == 2) = false := by rw [beq_eq_false_iff_ne]; exact e2
  by_cases e3 : st = 3
  · subst e3
    have k1 : ¬ 9223372036854775807 < S4.size + 15 := by omega
    go_wp2
    go_ret
    exact ⟨by rw [HH.out, H4.out, show (⟨#[59, 32, 83, 97, 109, 101, 83, 105, 116, 101, 61, 78, 111, 110, 101]⟩ : ByteArray) = txt [59, 32, 83, 97, 109, 101, 83, 105, 116, 101, 61, 78, 111, 110, 101] by decide, txt_append]; rfl, HBg.out⟩
  have s3 : (st == 3) = false := by rw [beq_eq_false_iff_ne]; exact e3
  have HP := Lib.hid (show semi (aSite (CookieV.t ⟨nm, vl, pt, ag, sc, ht, st⟩)) = [] from semi_site0 e1 e2 e3)
  have HXe := Lib.hid (show txt X = S4 by
    rw [H4.out]
    refine congrArg txt (HH.out.trans ?_)
    rw [HP.out, List.append_nil]
    rfl)
  clear e1 e2 e3
  go_wp2
  go_ret
  exact ⟨by rw [HXe.out]; rfl, HBg.out⟩
end Go.Proofs.YtlgofepmdjlpgaaDoor
namespace Go.Proofs.YtlgofepmdjlpgaaDoor
open Go.RowKit TextNat BakeMath

theorem semi_lt {l : List (List Nat)} (h : ∀ a ∈ l, ∀ b ∈ a, b < 256) : ∀ b ∈ semi l, b < 256 := by
  intro b hb
  unfold semi at hb
  obtain ⟨a, ha, hb⟩ := List.mem_flatMap.1 hb
  rcases List.mem_cons.1 hb with rfl | hb
  · decide
  · exact h a ha b hb
theorem lit_lt {m l : List Nat} (hm : m.all (fun b => decide (b < 256)) = true) (h : ∀ b ∈ l, b < 256) : ∀ b ∈ m ++ l, b < 256 := by
  intro b hb
  rcases List.mem_append.1 hb with hb | hb
  · simpa using List.all_eq_true.1 hm b hb
  · exact h b hb
theorem header_lt {c : CookieT} (h1 : ∀ b ∈ c.name, b < 256) (h2 : ∀ b ∈ c.value, b < 256) (h3 : ∀ b ∈ c.path, b < 256) : ∀ b ∈ header c, b < 256 := by
  have k1 : ∀ b ∈ semi (aPath c), b < 256 := semi_lt fun a ha => by
    unfold aPath at ha
    split at ha
    · cases ha
    · rw [List.mem_singleton] at ha
      subst ha
      exact lit_lt (by decide) h3
  have k2 : ∀ b ∈ semi (aAge c), b < 256 := semi_lt fun a ha => by
    unfold aAge at ha
    split at ha
    · rw [List.mem_singleton] at ha
      subst ha
      exact lit_lt (by decide) (decF_lt 20 _)
    · cases ha
  have k3 : ∀ b ∈ semi (aSec c), b < 256 := semi_lt fun a ha => by
    unfold aSec at ha
    split at ha
    · rw [List.mem_singleton] at ha
      subst ha
      decide
    · cases ha
  have k4 : ∀ b ∈ semi (aHttp c), b < 256 := semi_lt fun a ha => by
    unfold aHttp at ha
    split at ha
    · rw [List.mem_singleton] at ha
      subst ha
      decide
    · cases ha
  have k5 : ∀ b ∈ semi (aSite c), b < 256 := semi_lt fun a ha => by
    unfold aSite at ha
    split at ha
    · rw [List.mem_singleton] at ha
      subst ha
      decide
    · split at ha
      · rw [List.mem_singleton] at ha
        subst ha
        decide
      · split at ha
        · rw [List.mem_singleton] at ha
          subst ha
          decide
        · cases ha
  intro b hb
  rw [header_parts] at hb
  simp only [List.mem_append, List.mem_cons] at hb
  rcases hb with (((((hb | hb) | hb) | hb) | hb) | hb) | hb
  · exact h1 b hb
  · rcases hb with rfl | hb
    · decide
    · exact h2 b hb
  · exact k1 b hb
  · exact k2 b hb
  · exact k3 b hb
  · exact k4 b hb
  · exact k5 b hb
theorem header_len {c : CookieT} (h1 : c.name.length ≤ 1000) (h2 : c.value.length ≤ 1000) (h3 : c.path.length ≤ 1000) : (header c).length ≤ 4000 := by
  have k1 : (semi (aPath c)).length ≤ 1007 := by
    unfold aPath
    split
    · rw [semi_nil]; simp
    · rw [semi_one]; simp; omega
  have k2 : (semi (aAge c)).length ≤ 31 := by
    unfold aAge
    split
    · rw [semi_one]
      have := decF_len 20 c.age.toNat
      unfold dec
      simp only [List.length_cons, List.length_append, List.length_nil]
      omega
    · rw [semi_nil]; simp
  have k3 : (semi (aSec c)).length ≤ 8 := by
    unfold aSec
    split
    · rw [semi_one]; simp
    · rw [semi_nil]; simp
  have k4 : (semi (aHttp c)).length ≤ 10 := by
    unfold aHttp
    split
    · rw [semi_one]; simp
    · rw [semi_nil]; simp
  have k5 : (semi (aSite c)).length ≤ 17 := by
    unfold aSite
    split
    · rw [semi_one]; simp
    · split
      · rw [semi_one]; simp
      · split
        · rw [semi_one]; simp
        · rw [semi_nil]; simp
  rw [header_parts]
  simp only [List.length_append, List.length_cons]
  omega
set_option maxRecDepth 100000 in
set_option maxHeartbeats 8000000 in
theorem writes_true {T : World → Prop} (hU : Up T) (hW : WriteOk T) (hP : ParseOk T) (x : CookieV) (w : World) (hT : T w) (hf : x.fits) :
    Calls Tryd.prog 3 #[x.val] w fun e w' => e = .returned (.bool true) ∧ Below w.heap.size w w' := by
  have HA := Lib.hid (fun w1 h => awake_true hU hW hP w1 h)
  have HW := Lib.hid (fun (hx : x.short) w1 (h : T w1) => hW x w1 h hx hf)
  have HRt := Lib.hid (fun (hx : x.short) w1 => refRight14 x w1 hx)
  have HWr := Lib.hid (fun (hx : x.short) (ha : x.age ≤ 1099511627776) w1 => refWrite14 x w1 hx ha)
  have HP := Lib.hid (fun (hr : rightT x.t = true) (hx : x.short) w1 (h : T w1) => show Calls Tryd.prog 10 #[.string (txt (header x.t))] w1 (fun e w' => e = .returned (.tuple #[x.val, .nilIface]) ∧ Below w1.heap.size w1 w') by
    have hb : ∀ b ∈ header x.t, b < 256 := header_lt (c := x.t) (nats_lt x.name) (nats_lt x.value) (nats_lt x.path)
    refine (hP (txt (header x.t)) w1 h (by
      rw [txt_len]
      have := header_len (c := x.t) (show (nats x.name).length ≤ 1000 by rw [nats_len]; exact hx.name) (show (nats x.value).length ≤ 1000 by rw [nats_len]; exact hx.value) (show (nats x.path).length ≤ 1000 by rw [nats_len]; exact hx.path)
      omega)).mono ?_
    rintro e w' ⟨h1, h2⟩
    unfold ParseIs at h1
    rw [nats_txt _ hb, parse_header hr] at h1
    simp only [CookieV.of_t] at h1
    exact ⟨h1, h2⟩)
  have HU := Lib.hid hU
  have HT := Lib.hid hT
  have HQ := Lib.hid (fun w => eql_same x w)
  have HI := Lib.hid (fun h => right_is (c := x.t) h)
  have HSh := Lib.hid (show x.name.size ≤ 1000 → x.value.size ≤ 1000 → x.path.size ≤ 1000 → x.short from fun h1 h2 h3 => ⟨h1, h2, h3⟩)
  clear hU hW hP hT hf
  obtain ⟨R, hR⟩ : ∃ R, R = rightT x.t := ⟨_, rfl⟩
  obtain ⟨nm, vl, pt, ag, sc, ht, st⟩ := x
  simp only [CookieV.val] at *
  go_enter Tryd.func3, Tryd.ntmps3
  go_wp2_with fail
  obtain ⟨W, hW⟩ : ∃ W, W = w.alloc (.cells #[.string nm, .string vl, .string pt, .int .i64 ag, .bool sc, .bool ht, .int .i64 st] 23) := ⟨_, rfl⟩
  rw [← hW]
  have hb : Below w.heap.size w W := by rw [hW]; exact (Below.refl _ _).alloc (Nat.le_refl _) _
  have HRow := Lib.hid (show Lies W w.heap.size [.string nm, .string vl, .string pt, .int .i64 ag, .bool sc, .bool ht, .int .i64 st] 23 by rw [hW]; exact Lies.new w _ _)
  have HB := Lib.hid hb
  obtain ⟨g, hg⟩ : ∃ g, g = w.heap.size := ⟨_, rfl⟩
  rw [← hg] at HRow ⊢
  clear hb hW
  have HBz := Lib.hid (show ∀ w', Below w.heap.size w w' → T w' from fun w' h => HU.out _ _ HT.out h)
  refine (HA.out W (HBz.out _ HB.out)).mono ?_
  rintro e w1 ⟨rfl, hb⟩
  replace HRow := Lib.hid (HRow.out.below hb); replace HB := Lib.hid (HB.out.trans (hb.mono HB.out.size))
  clear hb HA
  clear hg
  have c0 := HRow.out.cell (i := 0) rfl; have c1 := HRow.out.cell (i := 1) rfl; have c2 := HRow.out.cell (i := 2) rfl; have c3 := HRow.out.cell (i := 3) rfl; have c4 := HRow.out.cell (i := 4) rfl; have c5 := HRow.out.cell (i := 5) rfl; have c6 := HRow.out.cell (i := 6) rfl
  by_cases h1 : 1000 < nm.size
  · have t1 : decide ((1000 : Int) < (nm.size : Int)) = true := decide_eq_true (by omega)
    have t1' : decide (1000 < nm.size) = true := decide_eq_true h1
    go_wp2
    go_ret
    exact ⟨rfl, HB.out⟩
  have t1 : decide ((1000 : Int) < (nm.size : Int)) = false := decide_eq_false (by omega)
  have t1' : decide (1000 < nm.size) = false := decide_eq_false h1
  by_cases h2 : 1000 < vl.size
  · have t2 : decide ((1000 : Int) < (vl.size : Int)) = true := decide_eq_true (by omega)
    have t2' : decide (1000 < vl.size) = true := decide_eq_true h2
    go_wp2
    go_ret
    exact ⟨rfl, HB.out⟩
  have t2 : decide ((1000 : Int) < (vl.size : Int)) = false := decide_eq_false (by omega)
  have t2' : decide (1000 < vl.size) = false := decide_eq_false h2
  by_cases h3 : 1000 < pt.size
  · have t3 : decide ((1000 : Int) < (pt.size : Int)) = true := decide_eq_true (by omega)
    have t3' : decide (1000 < pt.size) = true := decide_eq_true h3
    go_wp2
    go_ret
    exact ⟨rfl, HB.out⟩
  have t3 : decide ((1000 : Int) < (pt.size : Int)) = false := decide_eq_false (by omega)
  have t3' : decide (1000 < pt.size) = false := decide_eq_false h3
  have HSx := Lib.hid (HSh.out (by omega) (by omega) (by omega))
  clear h1 h2 h3 HSh
  go_wp2_with fail
  refine (HW.out HSx.out _ (HBz.out _ HB.out)).mono ?_
  rintro e w2 ⟨h2, hb⟩
  clear c0 c1 c2 c3 c4 c5 c6
  replace HRow := Lib.hid (HRow.out.below hb); replace HB := Lib.hid (HB.out.trans (hb.mono HB.out.size))
  clear hb
  unfold WriteIs at h2
  rw [← hR] at h2
  rw [← hR] at HI HP
  cases R with
  | false =>
    rw [if_neg (by decide)] at h2
    obtain ⟨r, rfl, hx⟩ := h2
    obtain ⟨Tx, u, rfl⟩ := hx.iface
    have HE := Lib.hid hx
    clear hx
    have c0 := HRow.out.cell (i := 0) rfl; have c1 := HRow.out.cell (i := 1) rfl; have c2 := HRow.out.cell (i := 2) rfl; have c3 := HRow.out.cell (i := 3) rfl; have c4 := HRow.out.cell (i := 4) rfl; have c5 := HRow.out.cell (i := 5) rfl; have c6 := HRow.out.cell (i := 6) rfl
    go_wp2_with fail
    refine (HRt.out HSx.out _).mono ?_
    rintro e w3 ⟨rfl, hb⟩
    rw [← hR]
    clear hR
    clear c0 c1 c2 c3 c4 c5 c6
    replace HE := Lib.hid (HE.out.below hb)
    replace HRow := Lib.hid (HRow.out.below hb); replace HB := Lib.hid (HB.out.trans (hb.mono HB.out.size))
    clear hb
    go_wp2_with fail
    refine (is_err HE.out 1).mono ?_
    rintro e w4 ⟨rfl, hw⟩
    rw [hw]
    clear hw
    go_wp2
    go_ret
    exact ⟨rfl, HB.out⟩
  | true =>
    rw [if_pos rfl] at h2
    obtain rfl := h2
    have HAg := Lib.hid (HI.out rfl).age.2
    obtain ⟨S, hS⟩ : ∃ S, S = txt (header (CookieV.t ⟨nm, vl, pt, ag, sc, ht, st⟩)) := ⟨_, rfl⟩
    rw [← hS] at HP HWr ⊢
    clear hS HI
    have c0 := HRow.out.cell (i := 0) rfl; have c1 := HRow.out.cell (i := 1) rfl; have c2 := HRow.out.cell (i := 2) rfl; have c3 := HRow.out.cell (i := 3) rfl; have c4 := HRow.out.cell (i := 4) rfl; have c5 := HRow.out.cell (i := 5) rfl; have c6 := HRow.out.cell (i := 6) rfl
    go_wp2_with fail
    refine (HRt.out HSx.out _).mono ?_
    rintro e w3 ⟨rfl, hb⟩
    rw [← hR]
    clear hR
    clear c0 c1 c2 c3 c4 c5 c6
    replace HRow := Lib.hid (HRow.out.below hb); replace HB := Lib.hid (HB.out.trans (hb.mono HB.out.size))
    clear hb
    go_wp2_with fail
    refine (HP.out (by trivial) HSx.out _ (HBz.out _ HB.out)).mono ?_
    rintro e w4 ⟨rfl, hb⟩
    replace HRow := Lib.hid (HRow.out.below hb); replace HB := Lib.hid (HB.out.trans (hb.mono HB.out.size))
    clear hb
    have hb : Below w4.heap.size w4 (w4.alloc (.cells #[.string nm, .string vl, .string pt, .int .i64 ag, .bool sc, .bool ht, .int .i64 st] 23)) := (Below.refl _ _).alloc (Nat.le_refl _) _
    have HD := Lib.hid (show Lies (w4.alloc (.cells #[.string nm, .string vl, .string pt, .int .i64 ag, .bool sc, .bool ht, .int .i64 st] 23)) w4.heap.size [.string nm, .string vl, .string pt, .int .i64 ag, .bool sc, .bool ht, .int .i64 st] 23 from Lies.new w4 _ _)
    replace HRow := Lib.hid (HRow.out.below hb); replace HB := Lib.hid (HB.out.trans (hb.mono HB.out.size))
    clear hb
    have c0 := HRow.out.cell (i := 0) rfl; have c1 := HRow.out.cell (i := 1) rfl; have c2 := HRow.out.cell (i := 2) rfl; have c3 := HRow.out.cell (i := 3) rfl; have c4 := HRow.out.cell (i := 4) rfl; have c5 := HRow.out.cell (i := 5) rfl; have c6 := HRow.out.cell (i := 6) rfl
    go_wp2_with fail
    refine (HWr.out HSx.out HAg.out _).mono ?_
    rintro e w5 ⟨rfl, hb⟩
    clear c0 c1 c2 c3 c4 c5 c6
    replace HD := Lib.hid (HD.out.below hb)
    replace HRow := Lib.hid (HRow.out.below hb); replace HB := Lib.hid (HB.out.trans (hb.mono HB.out.size))
    clear hb
    have c0 := HRow.out.cell (i := 0) rfl; have c1 := HRow.out.cell (i := 1) rfl; have c2 := HRow.out.cell (i := 2) rfl; have c3 := HRow.out.cell (i := 3) rfl; have c4 := HRow.out.cell (i := 4) rfl; have c5 := HRow.out.cell (i := 5) rfl; have c6 := HRow.out.cell (i := 6) rfl
    have d0 := HD.out.cell (i := 0) rfl; have d1 := HD.out.cell (i := 1) rfl; have d2 := HD.out.cell (i := 2) rfl; have d3 := HD.out.cell (i := 3) rfl; have d4 := HD.out.cell (i := 4) rfl; have d5 := HD.out.cell (i := 5) rfl; have d6 := HD.out.cell (i := 6) rfl
    have q := HQ.out
    go_wp2
    go_ret
    exact ⟨rfl, HB.out⟩
end Go.Proofs.YtlgofepmdjlpgaaDoor
