/-
  CookieJoins' contract. The conditions: the program's contracts.
-/
import Derived.Deep.RegionLaw
import Derived.Test.YtaniekpkcihpiaaCookieAwake
import Derived.Test.YtaniekpkcihpiaaCookieSame
namespace Go.Proofs.Ytaniekpkcihpiaa
open Go.RowKit TextNat CookieMath

theorem size_pos {s : ByteArray} (h : ¬ s = ⟨#[]⟩) : nats s ≠ [] := fun e => h (by
  rw [← txt_nats s, e]
  rfl)
theorem nats_join (s t : ByteArray) : nats (s ++ ⟨#[59, 32]⟩ ++ t) = nats s ++ 59 :: 32 :: nats t := by
  rw [nats_append, nats_append, List.append_assoc]
  rfl
theorem step_pairs {ops : Array Oper} {o : Oper} {ac : Act} {K : Act → World → Prop} {Q : Exit → Act → World → Prop} {E : Prop} {w : World} (hw : Region.wanted o (yielded ops ac.tmps) = true) (s x : Operand)
    (ho : o.op = .call { callee := .builtin .append, args := #[s, x], argTypes := #[22, 22] })
    (B : Nat) (v : Value) (A N : List PairV) (hs : ac.eval s = v) (hown : OwnQ w B v A) (b off n c : Nat) (hn : n = N.length) (hx : ac.eval x = .slice (some ⟨b, off, none⟩) n c)
    (hnews : PairsIn w (some ⟨b, off, none⟩) N) (hz : A.length + N.length ≤ 2000000) (hB : B ≤ w.heap.size)
    (h : ∀ v' w', OwnQ w' B v' (A ++ N) → Below B w w' → K (ac.put o.dst v') w') : if Region.wanted o (yielded ops ac.tmps) = true then Oper.wp Try.prog o ac w K Q else E := by
  subst hn
  rw [if_pos hw]
  obtain ⟨ii, hii, hi0, hi1, hi2⟩ := info_parts info_pair
  obtain ⟨v', w', hr, h2, h3, h4⟩ := run_own_far (P := Try.prog) w B 22 o.type 24 ii _ 2 32 Try.underlying22 hii hi0 hi1 hi2 rfl (by decide) v A.length (A.flatMap pcells) hown ⟨b, off, none⟩ N.length c (N.flatMap pcells) (pcells_len N) (news_pairs hnews) (pcells_one N) (by unfold maxLen; omega) (by omega) hB
  unfold Oper.wp execOp
  simp only [ho, resolve, invoke, builtin, Sem.run_bind, Sem.run_pure, Result.andThen_ok, List.map_toArray, List.map_cons, List.map_nil, hs, hx, hr]
  refine h v' w' ?_ ((Below.refl B w).grown h3 hB fun q hq => hown.blk q hq)
  unfold OwnQ
  rw [List.length_append, List.flatMap_append]
  exact h2
theorem eql_nil (g : Value) (w : World) (hg : g = .nilIface) : (binOp .eql 27 g .nilIface).run Try.prog w = .ok (.bool true) w := by
  subst hg
  go_simp
theorem neq_nil (g : Value) (w : World) (hg : g = .nilIface) : (binOp .neq 27 g .nilIface).run Try.prog w = .ok (.bool false) w := by
  subst hg
  go_simp
theorem guard_nil (o : BinOp) (x : Operand) (g : Value) (w : World) (hg : g = .nilIface) : (eqGuard o 27 x (.const .nilIface) g .nilIface).run Try.prog w = .ok () w := by
  subst hg
  simp [eqGuard]
theorem some_pairs {s : ByteArray} {L : List CookieMath.Pair} (h : ¬ s = ⟨#[]⟩) (hp : parse (nats s) = .inl L) : 0 < L.length := by
  obtain ⟨h1, _⟩ := parse_is hp
  cases L with
  | nil => exact absurd h1 (size_pos h)
  | cons _ _ => simp
set_option maxRecDepth 100000 in
set_option maxHeartbeats 8000000 in
theorem joins_true (hP : ParseOk) (s t : ByteArray) (w : World) :
    Calls Try.prog 4 #[.string s, .string t] w fun e w' => e = .returned (.bool true) ∧ Below w.heap.size w w' := by
  have HA := Lib.hid (awake_true hP w)
  have HP := Lib.hid hP
  clear hP
  go_enter Try.func4, Try.ntmps4
  go_wp2_with fail
  refine HA.out.mono ?_
  rintro e w1 ⟨rfl, hb⟩
  have HB := Lib.hid hb
  clear HA hb
  by_cases hs : 3000 < s.size
  · have t1 : decide ((3000 : Int) < (s.size : Int)) = true := decide_eq_true (by omega)
    have t1' : decide (3000 < s.size) = true := decide_eq_true hs
    clear hs
    go_wp2
    go_ret
    exact ⟨rfl, HB.out⟩
  have t1 : decide ((3000 : Int) < (s.size : Int)) = false := decide_eq_false (by omega)
  have t1' : decide (3000 < s.size) = false := decide_eq_false hs
  by_cases ht : 3000 < t.size
  · have t2 : decide ((3000 : Int) < (t.size : Int)) = true := decide_eq_true (by omega)
    have t2' : decide (3000 < t.size) = true := decide_eq_true ht
    clear hs ht
    go_wp2
    go_ret
    exact ⟨rfl, HB.out⟩
  have t2 : decide ((3000 : Int) < (t.size : Int)) = false := decide_eq_false (by omega)
  have t2' : decide (3000 < t.size) = false := decide_eq_false ht
  by_cases hse : s = ⟨#[]⟩
  · have t3 := none_list hse
    clear hs ht hse
    go_wp2
    go_ret
    exact ⟨rfl, HB.out⟩
  have t3 := some_list hse
  by_cases hte : t = ⟨#[]⟩
  · have t4 := none_list hte
    clear hs ht hse hte
    go_wp2
    go_ret
    exact ⟨rfl, HB.out⟩
  have t4 := some_list hte
  have HJ := Lib.hid (parse_join (size_pos hse) (size_pos hte))
  have HNe := Lib.hid (And.intro hse hte)
  have HS := Lib.hid (show s.size ≤ 3000 ∧ t.size ≤ 3000 by omega)
  have k1 : ¬ 9223372036854775807 < s.size + 2 := by omega
  have k2 : ¬ 9223372036854775807 < s.size + 2 + t.size := by omega
  have HLen := Lib.hid (show (s ++ ⟨#[59, 32]⟩ ++ t).size ≤ 1000000 by rw [ByteArray.size_append, ByteArray.size_append]; show s.size + 2 + t.size ≤ _; omega)
  clear hs ht hse hte
  go_wp2_with fail
  refine (HP.out s _ (by have := HS.out; omega)).mono ?_
  rintro e w2 ⟨h2, hb⟩
  replace HB := Lib.hid (HB.out.trans (hb.mono HB.out.size))
  clear hb
  unfold ParseIs at h2
  cases hp : parse (nats s) with
  | inr i =>
    rw [hp] at h2
    obtain ⟨pp, cap, x, rfl, hx⟩ := h2
    obtain ⟨T, u, rfl⟩ := hx.is.iface
    obtain ⟨k', hk'⟩ := HJ.out.2.2 i hp
    rw [← nats_join] at hk'
    have HK := Lib.hid hk'
    clear hx hp hk'
    go_wp2_with fail
    refine (HP.out t _ (by have := HS.out; omega)).mono ?_
    rintro e w3 ⟨h3, hb⟩
    replace HB := Lib.hid (HB.out.trans (hb.mono HB.out.size))
    clear hb
    have hres : ∃ v r, e = .returned (.tuple #[v, r]) := by
      unfold ParseIs at h3
      split at h3
      · obtain ⟨_, _, h, _⟩ := h3
        exact ⟨_, _, h⟩
      · obtain ⟨_, _, _, h, _⟩ := h3
        exact ⟨_, _, h⟩
    obtain ⟨v3, r3, rfl⟩ := hres
    clear h3
    go_wp2_with fail
    refine (HP.out _ _ HLen.out).mono ?_
    rintro e w4 ⟨h4, hb⟩
    replace HB := Lib.hid (HB.out.trans (hb.mono HB.out.size))
    clear hb
    unfold ParseIs at h4
    rw [HK.out] at h4
    obtain ⟨qq, cap2, y, rfl, hy⟩ := h4
    obtain ⟨T2, u2, rfl⟩ := hy.is.iface
    clear hy
    go_wp2
    go_ret
    exact ⟨rfl, HB.out⟩
  | inl La =>
    rw [hp] at h2
    obtain ⟨pp, cap, rfl, hc1, hc2, hI⟩ := h2
    have HI := Lib.hid hI
    have HC := Lib.hid (And.intro hc1 hc2)
    have HPa := Lib.hid hp
    clear hI hc1 hc2 hp
    go_wp2_with fail
    refine (HP.out t _ (by have := HS.out; omega)).mono ?_
    rintro e w3 ⟨h3, hb⟩
    replace HI := Lib.hid (HI.out.grown hb)
    replace HB := Lib.hid (HB.out.trans (hb.mono HB.out.size))
    clear hb
    unfold ParseIs at h3
    cases hp : parse (nats t) with
    | inr i =>
      rw [hp] at h3
      obtain ⟨qq, cap2, x, rfl, hx⟩ := h3
      obtain ⟨T, u, rfl⟩ := hx.is.iface
      obtain ⟨k', hk'⟩ := HJ.out.2.1 La i HPa.out hp
      rw [← nats_join] at hk'
      have HK := Lib.hid hk'
      clear hx hp hk'
      go_wp2_with fail
      refine (HP.out _ _ HLen.out).mono ?_
      rintro e w4 ⟨h4, hb⟩
      replace HB := Lib.hid (HB.out.trans (hb.mono HB.out.size))
      clear hb
      unfold ParseIs at h4
      rw [HK.out] at h4
      obtain ⟨rr, cap3, y, rfl, hy⟩ := h4
      obtain ⟨T2, u2, rfl⟩ := hy.is.iface
      clear hy
      go_wp2_with fail
      go_region
      go_wp2
      go_ret
      exact ⟨rfl, HB.out.drew⟩
    | inl Lb =>
      rw [hp] at h3
      obtain ⟨qq, cap2, rfl, hd1, hd2, hJ⟩ := h3
      have hk' := HJ.out.1 La Lb HPa.out hp
      rw [← nats_join] at hk'
      have HK := Lib.hid hk'
      have HI2 := Lib.hid hJ
      have HPb := Lib.hid hp
      have HC2 := Lib.hid (And.intro hd1 hd2)
      clear hp hk' hJ hd1 hd2
      go_wp2_with fail
      refine (HP.out _ _ HLen.out).mono ?_
      rintro e w4 ⟨h4, hb⟩
      replace HB := Lib.hid (HB.out.trans (hb.mono HB.out.size))
      replace HI := Lib.hid (HI.out.grown hb)
      replace HI2 := Lib.hid (HI2.out.grown hb)
      clear hb
      unfold ParseIs at h4
      rw [HK.out] at h4
      obtain ⟨rr, cap3, h4e, he1, he2, hL⟩ := h4
      obtain ⟨g, hg⟩ : ∃ g, g = Value.nilIface := ⟨_, rfl⟩
      obtain ⟨M, hM⟩ : ∃ M, M = (La ++ Lb).length := ⟨_, rfl⟩
      rw [← hg, ← hM] at h4e
      have HM := Lib.hid hM
      subst h4e
      have b1 := eql_nil g w4.drew hg
      have b2 := neq_nil g w4.drew hg
      have b3 := guard_nil .eql (.tmp 53) g w4.drew hg
      have b4 := guard_nil .neq (.tmp 57) g w4.drew hg
      clear hg hM
      have HI3 := Lib.hid hL
      have HC3 := Lib.hid (And.intro he1 he2)
      clear hL he1 he2
      obtain ⟨pb, po, rfl⟩ := HI.out.addr (by rw [List.length_map]; exact some_pairs HNe.out.1 HPa.out)
      obtain ⟨qb, qo, rfl⟩ := HI2.out.addr (by rw [List.length_map]; exact some_pairs HNe.out.2 HPb.out)
      have HO := Lib.hid (show OwnQ (w4.drew.alloc (.cells #[] 24)) w4.heap.size (.slice (some ⟨w4.heap.size, 0, none⟩) 0 0) [] from World.ownsRow_made w4.drew #[] 0 (Nat.le_refl _) (by unfold maxLen; omega) rfl)
      have HBm := Lib.hid (show Below w4.heap.size w4 (w4.drew.alloc (.cells #[] 24)) from (Below.refl _ _).drew.alloc (Nat.le_refl _) _)
      have HLa := Lib.hid (show La.length ≤ 1001 ∧ Lb.length ≤ 1001 by
        have h1 := total_le La
        have h2 := total_le Lb
        rw [← (parse_is HPa.out).1, nats_len] at h1
        rw [← (parse_is HPb.out).1, nats_len] at h2
        have h3 := length_le La
        have h4 := length_le Lb
        have := HS.out
        omega)
      have HSm := Lib.hid (fun (p6 : Option Addr) (c6 n6 : Nat) (w6 : World) (h6 : PairsIn w6 p6 ((La ++ Lb).map pairB)) (hw : PairsIn w6 rr ((La ++ Lb).map pairB)) (hn : n6 = M) => show Calls Try.prog 10 #[.slice rr M cap3, .slice p6 n6 c6] w6 (fun e w' => e = .returned (.bool true) ∧ Below w6.heap.size w6 w') by
        have hl : ((La ++ Lb).map pairB).length = M := by rw [List.length_map, HM.out]
        have h := same_ok rr p6 cap3 c6 _ _ w6 hw h6 (by rw [List.length_map]; have := HC3.out; omega) (by rw [List.length_map]; have := HC3.out; omega)
        rw [hl, show sameP ((La ++ Lb).map pairB) ((La ++ Lb).map pairB) = true by unfold sameP; simp] at h
        rw [hn]
        exact h)
      have HQ := Lib.hid (show [] ++ La.map pairB ++ Lb.map pairB = (La ++ Lb).map pairB by rw [List.map_append, List.nil_append])
      go_wp2_with fail
      go_region_law (first
        | (refine step_pairs (by simp [Region.wanted, yielded]) (.tmp 61) (.tmp 62) rfl w4.heap.size _ [] (La.map pairB) (by simp [Act.eval]) HO.out pb po La.length cap (by rw [List.length_map]) (by simp [Act.eval]) (HI.out.grown HBm.out) (by have := HLa.out; simp; omega) HBm.out.size ?_
           intro v5 w5 h5 hb5
           have HO5 := Lib.hid h5
           replace HBm := Lib.hid (HBm.out.trans hb5)
           clear h5 hb5)
        | (refine step_pairs (by simp [Region.wanted, yielded]) (.tmp 63) (.tmp 64) rfl w4.heap.size _ ([] ++ La.map pairB) (Lb.map pairB) (by simp [Act.eval]) HO5.out qb qo Lb.length cap2 (by rw [List.length_map]) (by simp [Act.eval]) (HI2.out.grown HBm.out) (by have := HLa.out; simp; omega) HBm.out.size ?_
           intro v6 w6 h6 hb6
           rw [HQ.out] at h6
           obtain ⟨p6, c6, rfl, _, _⟩ := h6.shape
           have HPI := Lib.hid h6.pairs
           replace HBm := Lib.hid (HBm.out.trans hb6)
           obtain ⟨n6, hn6⟩ : ∃ n6, n6 = ((La ++ Lb).map pairB).length := ⟨_, rfl⟩
           rw [← hn6]
           have HN6 := Lib.hid (show n6 = M by rw [hn6, List.length_map, HM.out])
           clear h6 hb6 hn6)
        | (go_simp
           go_at_call 10
           refine (HSm.out p6 c6 n6 _ HPI.out (HI3.out.grown HBm.out) HN6.out).mono ?_
           rintro e w7 ⟨rfl, hb7⟩
           replace HBm := Lib.hid (HBm.out.trans (hb7.mono HBm.out.size))
           clear hb7))
      go_wp2
      go_ret
      exact ⟨rfl, HB.out.trans (HBm.out.mono HB.out.size)⟩
end Go.Proofs.Ytaniekpkcihpiaa
