/-
  BakeLast's contract. The conditions: the program's contracts.
-/
import Derived.Test.YtlgofepmdjlpgaaDoorPart18
import Derived.Test.YtlgofepmdjlpgaaDoorPart11
import Derived.Test.YtlgofepmdjlpgaaDoorResults
namespace Go.Proofs.YtlgofepmdjlpgaaDoor
open Go.RowKit TextNat BakeMath

theorem dec_small {k : Nat} (h : k < 10) : dec k = [48 + k] := by
  show decF 20 k = _
  rw [decF, if_pos h]
theorem dec_step {k : Nat} (h : ¬ k < 10) (hk : k ≤ 1099511627776) : dec k = dec (k / 10) ++ [48 + k % 10] := by
  show decF 20 k = decF 20 (k / 10) ++ _
  rw [decF, if_neg h, dec_same 13 19 (k / 10) (by omega) (by decide), dec_same 13 20 (k / 10) (by omega) (by decide)]
/-- What the program answers, once more: a cookie and whether there is one. -/
theorem parse_val {w : World} {s : ByteArray} {e : Ending} (h : ParseIs w s e) : ∃ (x : CookieV) (y : Value), e = .returned (.tuple #[x.val, y]) ∧ ((parseF (nats s) = none ∧ ∃ T u, y = .iface T u) ∨ ∃ c, parseF (nats s) = some c ∧ x = CookieV.of c ∧ y = .nilIface) := by
  unfold ParseIs at h
  cases hp : parseF (nats s) with
  | none =>
    rw [hp] at h
    obtain ⟨r, rfl, hx⟩ := h
    obtain ⟨T, u, rfl⟩ := hx.iface
    exact ⟨_, _, rfl, .inl ⟨rfl, T, u, rfl⟩⟩
  | some c =>
    rw [hp] at h
    exact ⟨_, _, h, .inr ⟨c, rfl, rfl, rfl⟩⟩
theorem below_set8 {B g : Nat} {a w : World} (h : Below B a w) (hg : B ≤ g) (j : Nat) (v : Value) : Below B a (w.setCell ⟨g, j, none⟩ v) :=
  ⟨h.os, h.tape, h.output, by have := h.size; simpa [World.setCell] using this, fun k hk => (Below.heap_setCell _ _ _ _ (by show k ≠ g; omega)).trans (h.block k hk)⟩
theorem last_txt (s : ByteArray) (n : Nat) (D : ByteArray) (hD : nats D = dec n) : nats (s ++ ⟨#[59, 88, 45, 79, 116, 104, 101, 114, 61, 49, 59, 32, 109, 97, 120, 45, 97, 103, 101, 32, 61, 32]⟩ ++ D ++ ⟨#[32]⟩) = nats s ++ lastOf n := by
  rw [nats_append, nats_append, nats_append, hD]
  unfold lastOf
  simp only [List.append_assoc]
  rfl
set_option maxRecDepth 100000 in
set_option maxHeartbeats 8000000 in
theorem last_true {T : World → Prop} (hU : Up T) (hW : WriteOk T) (hP : ParseOk T) (s : ByteArray) (n : Nat) (w : World) (hT : T w) (hn : n ≤ 65535) :
    Calls Tryd.prog 5 #[.string s, .int .u16 (n : Int)] w fun e w' => e = .returned (.bool true) ∧ Below w.heap.size w w' := by
  have HA := Lib.hid (awake_true hU hW hP w hT)
  have HP := Lib.hid hP
  have HBz := Lib.hid (show ∀ w', Below w.heap.size w w' → T w' from fun w' h => hU _ _ hT h)
  clear hP hW hU hT
  go_enter Tryd.func5, Tryd.ntmps5
  go_wp2_with fail
  refine HA.out.mono ?_
  rintro e w1 ⟨rfl, hb⟩
  have HB := Lib.hid hb
  clear HA hb
  by_cases hs : 3000 < s.size
  · have t1 : decide ((3000 : Int) < (s.size : Int)) = true := decide_eq_true (by omega)
    have t1' : decide (3000 < s.size) = true := decide_eq_true hs
    clear hs
    go_wp2
    go_ret
    exact ⟨rfl, HB.out⟩
  have t1 : decide ((3000 : Int) < (s.size : Int)) = false := decide_eq_false (by omega)
  have t1' : decide (3000 < s.size) = false := decide_eq_false hs
  have hsz : s.size ≤ 3000 := by omega
  clear hs
  go_wp2_with fail
  refine (HP.out s _ (HBz.out _ HB.out) (by omega)).mono ?_
  rintro e w2 ⟨h2, hb⟩
  replace HB := Lib.hid (HB.out.trans (hb.mono HB.out.size))
  clear hb
  obtain ⟨x, y, rfl, hy⟩ := parse_val h2
  have HY := Lib.hid hy
  clear h2 hy
  have HXv := Lib.hid (show x = x from rfl)
  obtain ⟨nm, vl, pt, ag, sc, ht, st⟩ := x
  simp only [CookieV.val]
  have hb : Below w2.heap.size w2 (w2.alloc (.cells #[.string nm, .string vl, .string pt, .int .i64 ag, .bool sc, .bool ht, .int .i64 st] 23)) := (Below.refl _ _).alloc (Nat.le_refl _) _
  have HRow := Lib.hid (show Lies (w2.alloc (.cells #[.string nm, .string vl, .string pt, .int .i64 ag, .bool sc, .bool ht, .int .i64 st] 23)) w2.heap.size [.string nm, .string vl, .string pt, .int .i64 ag, .bool sc, .bool ht, .int .i64 st] 23 from Lies.new w2 _ _)
  have HLg := Lib.hid (show w.heap.size ≤ w2.heap.size from HB.out.size)
  replace HB := Lib.hid (HB.out.trans (hb.mono HB.out.size))
  clear hb HXv
  go_wp2_with fail
  obtain ⟨W, hWd⟩ : ∃ W, W = w2.alloc (.cells #[.string nm, .string vl, .string pt, .int .i64 ag, .bool sc, .bool ht, .int .i64 st] 23) := ⟨_, rfl⟩
  rw [← hWd] at HRow HB ⊢
  obtain ⟨g, hg⟩ : ∃ g, g = w2.heap.size := ⟨_, rfl⟩
  rw [← hg] at HRow HLg ⊢
  clear hWd hg
  go_loopg [7, 8] (n + 1) (fun gh s7 s8 wx => ∃ (D : ByteArray) (k : Nat), s7 = .string D ∧ s8 = .int .i64 (k : Int) ∧ gh = k + (if D.size = 0 then 1 else 0) ∧ k ≤ n ∧ D.size ≤ 100 ∧ Hid (k = 0 → D.size = 0 → n = 0) ∧ Hid (D.size = 0 → k = n) ∧ Hid (D.size ≠ 0 → (if k = 0 then nats D = dec n else dec k ++ nats D = dec n)) ∧ Hid (Lies wx g [.string nm, .string vl, .string pt, .int .i64 ag, .bool sc, .bool ht, .int .i64 st] 23) ∧ Hid (Below w.heap.size w wx))
  case atStart => exact ⟨⟨#[]⟩, n, rfl, by go_num, rfl, Nat.le_refl _, by decide, Lib.hid (fun h _ => h.symm ▸ rfl), Lib.hid (fun _ => rfl), Lib.hid (fun h => absurd rfl h), HRow, HB⟩
  clear HRow HB
  case round =>
    obtain ⟨D, k, rfl, rfl, hgk, hkn, hDl, HZ0, HZ1, HZ2, HRow, HB⟩ := hrel
    by_cases hgo : 0 < k ∨ D.size = 0
    · have hd : dec k ++ nats D = dec n := by
        by_cases hz : D.size = 0
        · rw [HZ1.out hz, show nats D = [] from List.length_eq_zero_iff.1 (by rw [nats_len, hz]), List.append_nil]
        · have := HZ2.out hz
          rw [if_neg (show ¬ k = 0 by omega)] at this
          exact this
      have hdl := congrArg List.length hd
      rw [List.length_append, nats_len] at hdl
      have hnl := decF_len 20 n
      change (dec n).length ≤ 20 + 1 at hnl
      obtain ⟨q, hq⟩ : ∃ q, q = k / 10 := ⟨_, rfl⟩
      obtain ⟨r, hr⟩ : ∃ r, r = k % 10 := ⟨_, rfl⟩
      obtain ⟨x, hx⟩ : ∃ x, x = 48 + r := ⟨_, rfl⟩
      have f1 : (k : Int).tmod 10 = (r : Int) := by rw [Int.tmod_eq_emod_of_nonneg (by omega)]; omega
      have f2 : (k : Int).tdiv 10 = (q : Int) := by rw [Int.tdiv_eq_ediv_of_nonneg (by omega)]; omega
      have f5 : IntKind.i64.wrap (q : Int) = (q : Int) := by rw [IntKind.wrap_i64]; omega
      have k1 : IntKind.i64.wrap (48 + (r : Int)) = (x : Int) := by rw [IntKind.wrap_i64]; omega
      have k2 : IntKind.u8.wrap (x : Int) = (x : Int) := by rw [IntKind.wrap_u8]; omega
      have k3 := one_byte wr x (by omega)
      have f7 : ¬ 9223372036854775807 < (txt [x]).size + D.size := by rw [txt_len]; simp; omega
      have hs9 : (txt [x] ++ D).size = 1 + D.size := by rw [ByteArray.size_append, txt_len]; rfl
      have HN := Lib.hid (show (if q = 0 then nats (txt [x] ++ D) = dec n else dec q ++ nats (txt [x] ++ D) = dec n) by
        rw [nats_append, nats_txt _ (by simp; omega), ← hd]
        by_cases h10 : k < 10
        · rw [if_pos (by omega), dec_small h10, hx, hr, Nat.mod_eq_of_lt h10]
        · rw [if_neg (by omega), dec_step h10 (by omega), hx, hr, hq, List.append_assoc])
      have HMs := Lib.hid (show q + (if (txt [x] ++ D).size = 0 then 1 else 0) < gk by
        rw [if_neg (by omega), hgk]
        by_cases hz : D.size = 0
        · rw [if_pos hz]; omega
        · rw [if_neg hz]; omega)
      have hqn : q ≤ n := by omega
      have HS9 := Lib.hid hs9
      have HDl := Lib.hid (show (txt [x] ++ D).size ≤ 100 by omega)
      by_cases hk0 : 0 < k
      · have t2 : decide ((0 : Int) < (k : Int)) = true := decide_eq_true (by omega)
        have t2' : decide (0 < k) = true := decide_eq_true hk0
        clear hd hdl hnl hq hr hx hs9 HZ0 HZ1 HZ2 hgk hgo
        go_wp2
        go_roundg (q + (if (txt [x] ++ D).size = 0 then 1 else 0))
        case measure => exact HMs.out
        case rel => exact ⟨_, q, rfl, rfl, rfl, hqn, HDl.out, Lib.hid (fun _ h => absurd h (by rw [HS9.out]; omega)), Lib.hid (fun h => absurd h (by rw [HS9.out]; omega)), Lib.hid (fun _ => HN.out), Lib.hid (HRow.out.below ((Below.refl _ _).alloc (Nat.le_refl _) _)), Lib.hid (HB.out.alloc HB.out.size _)⟩
      · have hDe : D = ⟨#[]⟩ := by
          rw [← txt_nats D, show nats D = [] from List.length_eq_zero_iff.1 (by rw [nats_len]; omega)]
          rfl
        subst hDe
        have t2 : decide ((0 : Int) < (k : Int)) = false := decide_eq_false (by omega)
        have t2' : decide (0 < k) = false := decide_eq_false hk0
        clear hd hdl hnl hq hr hx hs9 HZ0 HZ1 HZ2 hgk hgo hk0
        go_wp2
        go_roundg (q + (if (txt [x] ++ (⟨#[]⟩ : ByteArray)).size = 0 then 1 else 0))
        case measure => exact HMs.out
        case rel => exact ⟨_, q, rfl, rfl, rfl, hqn, HDl.out, Lib.hid (fun _ h => absurd h (by rw [HS9.out]; omega)), Lib.hid (fun h => absurd h (by rw [HS9.out]; omega)), Lib.hid (fun _ => HN.out), Lib.hid (HRow.out.below ((Below.refl _ _).alloc (Nat.le_refl _) _)), Lib.hid (HB.out.alloc HB.out.size _)⟩
    · obtain rfl : k = 0 := by omega
      have hne : ¬ D = ⟨#[]⟩ := fun h => hgo (.inr (by rw [h]; rfl))
      have hE := some_list hne
      have hDn : nats D = dec n := by
        have := HZ2.out (fun h => hgo (.inr h))
        rw [if_pos rfl] at this
        exact this
      obtain ⟨S, hS⟩ : ∃ S, S = s ++ ⟨#[59, 88, 45, 79, 116, 104, 101, 114, 61, 49, 59, 32, 109, 97, 120, 45, 97, 103, 101, 32, 61, 32]⟩ ++ D ++ ⟨#[32]⟩ := ⟨_, rfl⟩
      have hSn : nats S = nats s ++ lastOf n := by rw [hS]; exact last_txt s n D hDn
      have HSp := Lib.hid (show parseF (nats S) = (parseF (nats s)).map fun c => { c with age := (n : Int) } by rw [hSn]; exact parse_last _ (by unfold top; omega))
      have hSs : S.size ≤ 4000 := by
        rw [hS]
        simp only [ByteArray.size_append]
        show s.size + 22 + D.size + 1 ≤ 4000
        omega
      have HSe := Lib.hid hS
      have HPl := Lib.hid (fun w1 h => hS ▸ HP.out S w1 h (by omega))
      have m1 : ¬ 9223372036854775807 < s.size + 22 := by omega
      have m2 : ¬ 9223372036854775807 < s.size + 22 + D.size := by omega
      have m3 : ¬ 9223372036854775807 < s.size + 22 + D.size + 1 := by omega
      clear hgo hne hDn hSn hSs hS HZ0 HZ1 HZ2 hgk hkn
      go_wp2_with fail
      refine (HPl.out _ (HBz.out _ HB.out)).mono ?_
      rintro e w5 ⟨h5, hb⟩
      replace HRow := Lib.hid (HRow.out.below hb)
      replace HB := Lib.hid (HB.out.trans (hb.mono HB.out.size))
      clear hb m1 m2 m3
      rw [← HSe.out] at h5
      obtain ⟨x2, y2, rfl, hy2⟩ := parse_val h5
      rw [HSp.out] at hy2
      clear h5
      obtain ⟨nm2, vl2, pt2, ag2, sc2, ht2, st2⟩ := x2
      simp only [CookieV.val]
      rcases HY.out with ⟨hp, Ty, uy, rfl⟩ | ⟨c, hp, hxc, rfl⟩
      · rw [hp] at hy2
        rcases hy2 with ⟨_, T2, u2, rfl⟩ | ⟨c2, h, _⟩
        · clear hp
          go_wp2
          go_ret
          exact ⟨rfl, HB.out.alloc HB.out.size _⟩
        · cases h
      · rw [hp] at hy2
        rcases hy2 with ⟨h, _⟩ | ⟨c2, h, hx2, rfl⟩
        · cases h
        · obtain rfl := Option.some.inj h
          clear hp h HSp HPl
          obtain ⟨cn, cv, cp, ca, cs, ch, ci⟩ := c
          unfold CookieV.of at hxc hx2
          simp only [CookieV.mk.injEq] at hxc hx2
          obtain ⟨rfl, rfl, rfl, rfl, rfl, rfl, rfl⟩ := hxc
          obtain ⟨rfl, rfl, rfl, rfl, rfl, rfl, rfl⟩ := hx2
          have q := fun w => eql_same (CookieV.of ⟨cn, cv, cp, (n : Int), sc2, ht2, st2⟩) w
          simp only [CookieV.val, CookieV.of] at q
          have kw : IntKind.i64.wrap (n : Int) = (n : Int) := by rw [IntKind.wrap_i64]; omega
          have hb : Below w5.heap.size w5 (w5.alloc (.cells #[.string (txt cn), .string (txt cv), .string (txt cp), .int .i64 (n : Int), .bool sc2, .bool ht2, .int .i64 st2] 23)) := (Below.refl _ _).alloc (Nat.le_refl _) _
          have HD := Lib.hid (show Lies (w5.alloc (.cells #[.string (txt cn), .string (txt cv), .string (txt cp), .int .i64 (n : Int), .bool sc2, .bool ht2, .int .i64 st2] 23)) w5.heap.size [.string (txt cn), .string (txt cv), .string (txt cp), .int .i64 (n : Int), .bool sc2, .bool ht2, .int .i64 st2] 23 from Lies.new w5 _ _)
          have HGn := Lib.hid (show w5.heap.size ≠ g from Nat.ne_of_gt HRow.out.lt)
          replace HRow := Lib.hid (HRow.out.below hb)
          replace HB := Lib.hid (HB.out.trans (hb.mono HB.out.size))
          clear hb
          have c0 := HRow.out.cell (i := 0) rfl; have c1 := HRow.out.cell (i := 1) rfl; have c2 := HRow.out.cell (i := 2) rfl; have c3 := HRow.out.cell (i := 3) rfl; have c4 := HRow.out.cell (i := 4) rfl; have c5 := HRow.out.cell (i := 5) rfl; have c6 := HRow.out.cell (i := 6) rfl
          have cf := HRow.out.free 3
          have hlg := HGn.out
          have d0 := HD.out.cell (i := 0) rfl; have d1 := HD.out.cell (i := 1) rfl; have d2 := HD.out.cell (i := 2) rfl; have d3 := HD.out.cell (i := 3) rfl; have d4 := HD.out.cell (i := 4) rfl; have d5 := HD.out.cell (i := 5) rfl; have d6 := HD.out.cell (i := 6) rfl
          go_wp2
          go_ret
          exact ⟨rfl, below_set8 HB.out HLg.out 3 _⟩
end Go.Proofs.YtlgofepmdjlpgaaDoor
