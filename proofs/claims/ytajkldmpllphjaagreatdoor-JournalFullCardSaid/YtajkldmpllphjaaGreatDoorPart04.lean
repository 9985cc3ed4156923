/-
  Texts of one claim, merged.
  JournalSame: The contracts of the document's Same of two lists of texts, and of chapter 10's helper begins. The conditions: the texts' cells.
  JournalRow: Texts appended onto a row of the call's own. No conditions but those typed.
-/
import Derived.Test.YtajkldmpllphjaaGreatDoorPart03
namespace Go.Proofs.YtajkldmpllphjaaGreatDoor
open Go.RowKit BlockMath TextNat

theorem list_same {xs ys : List ByteArray} (hl : xs.length = ys.length) (h : ∀ (i : Nat) (x y : ByteArray), xs[i]? = some x → ys[i]? = some y → x = y) : xs = ys := by
  apply List.ext_getElem?
  intro i
  by_cases hi : i < xs.length
  · have hx : xs[i]? = some xs[i] := List.getElem?_eq_getElem hi
    have hy : ys[i]? = some (ys[i]'(by omega)) := List.getElem?_eq_getElem _
    rw [hx, hy, h i _ _ hx hy]
  · rw [List.getElem?_eq_none (by omega), List.getElem?_eq_none (by omega)]
set_option maxRecDepth 100000 in
set_option maxHeartbeats 8000000 in
theorem same_ok (pa pb : Option Addr) (ca cb : Nat) (xs ys : List ByteArray) (w : World) (hx : TextsIn w pa xs) (hy : TextsIn w pb ys) (lx : xs.length ≤ 1000000) :
    Calls Tryz.prog 15 #[.slice pa xs.length ca, .slice pb ys.length cb] w fun e w' => e = .returned (.bool (decide (xs = ys))) ∧ ∃ n, w' = w.drewN n := by
  have HX := Lib.hid hx
  have HY := Lib.hid hy
  clear hx hy
  by_cases hl : xs.length = ys.length
  case neg =>
    have t0 : ((xs.length : Int) == (ys.length : Int)) = false := by rw [beq_eq_false_iff_ne]; omega
    have t0' : ((xs.length : Int) != (ys.length : Int)) = true := by rw [bne, t0]; rfl
    have hne : decide (xs = ys) = false := decide_eq_false fun h => hl (by rw [h])
    rw [hne]
    clear hl hne
    go_enter Tryz.func15, Tryz.ntmps15
    go_wp2
    go_ret
    exact ⟨rfl, 0, rfl⟩
  case pos =>
    obtain ⟨n, hn⟩ : ∃ n, n = xs.length := ⟨_, rfl⟩
    rw [← hl, ← hn]
    have HN := Lib.hid hn
    have HL := Lib.hid hl
    have hn6 : n ≤ 1000000 := by omega
    clear hl hn lx
    obtain ⟨q, hq⟩ : ∃ q, q = decide (xs = ys) := ⟨_, rfl⟩
    rw [← hq]
    have HQ := Lib.hid hq
    clear hq
    go_enter Tryz.func15, Tryz.ntmps15
    go_wp2_with fail
    go_loopg [5] n (fun gh s5 wx => ∃ i : Nat, i + gh = n ∧ s5 = .int .i64 (i : Int) ∧ (∀ (k : Nat) (x y : ByteArray), k < i → xs[k]? = some x → ys[k]? = some y → x = y) ∧ ∃ m, wx = w.drewN m)
    case atStart => exact ⟨0, by omega, by go_num, (fun k x y hk => absurd hk (by omega)), 0, rfl⟩
    case round =>
      obtain ⟨i, hi, rfl, hs, m, rfl⟩ := hrel
      have HS := Lib.hid hs
      clear hs
      by_cases hin : i < n
      case neg =>
        have u1 : decide ((i : Int) < (n : Int)) = false := decide_eq_false (by omega)
        have u1' : decide (i < n) = false := decide_eq_false hin
        have he : decide (xs = ys) = true := decide_eq_true (list_same HL.out fun k x y hx hy => HS.out k x y (by have := (List.getElem?_eq_some_iff.1 hx).1; have := HN.out; omega) hx hy)
        have HV := Lib.hid (HQ.out.trans he)
        clear hin he
        go_wp2
        go_ret
        exact ⟨by rw [HV.out]; rfl, _, rfl⟩
      case pos =>
        have u1 : decide ((i : Int) < (n : Int)) = true := decide_eq_true (by omega)
        have u1' : decide (i < n) = true := decide_eq_true hin
        obtain ⟨x, hx⟩ : ∃ x, xs[i]? = some x := ⟨_, List.getElem?_eq_getElem (by have := HN.out; omega)⟩
        obtain ⟨y, hy⟩ : ∃ y, ys[i]? = some y := ⟨_, List.getElem?_eq_getElem (by have := HN.out; have := HL.out; omega)⟩
        obtain ⟨b1, o1, rfl, c1⟩ := HX.out i x hx
        obtain ⟨b2, o2, rfl, c2⟩ := HY.out i y hy
        have d1 : (w.drewN m).cell? ⟨b1, o1 + i, none⟩ = some (.string x) := c1
        have d2 : (w.drewN m).cell? ⟨b2, o2 + i, none⟩ = some (.string y) := c2
        have k1 : IntKind.i64.wrap ((i : Int) + 1) = (i : Int) + 1 := by rw [IntKind.wrap_i64]; omega
        obtain ⟨W, hW⟩ : ∃ W, W = w.drewN m := ⟨_, rfl⟩
        rw [← hW] at d1 d2 ⊢
        have HW := Lib.hid hW
        clear hW c1 c2
        by_cases hxy : x = y
        · subst hxy
          have HS2 := Lib.hid (show ∀ (k : Nat) (u v : ByteArray), k < i + 1 → xs[k]? = some u → ys[k]? = some v → u = v by
            intro k u v hk hu hv
            by_cases hki : k = i
            · subst hki
              rw [hx] at hu
              rw [hy] at hv
              rw [← Option.some.inj hu, ← Option.some.inj hv]
            · exact HS.out k u v (by omega) hu hv)
          clear hx hy
          go_wp2_with fail
          go_quiet (fail)
          go_wp2_with fail
          go_roundg (n - (i + 1))
          case measure => omega
          case rel => exact ⟨i + 1, by omega, by go_num, HS2.out, m + nq, by rw [HW.out]; simp [World.drewN, Nat.add_assoc]⟩
        · have hne := text_list hxy
          have he : decide (xs = ys) = false := decide_eq_false fun h => hxy (by rw [h, hy] at hx; exact (Option.some.inj hx).symm)
          have HV := Lib.hid (HQ.out.trans he)
          clear hx hy he
          go_wp2_with fail
          go_quiet (fail)
          go_wp2
          all_goals first
            | (go_ret; exact ⟨by rw [HV.out]; rfl, m + nq, by rw [HW.out]; simp [World.drewN, Nat.add_assoc]⟩)
            | (exfalso; rename_i h9; simp [hne] at h9; done)
theorem TextsIn.take {w : World} {pp : Option Addr} {xs : List ByteArray} (h : TextsIn w pp xs) (n : Nat) : TextsIn w pp (xs.take n) := fun i x hx => by
  rw [List.getElem?_take] at hx
  split at hx
  · exact h i x hx
  · cases hx
set_option maxRecDepth 100000 in
set_option maxHeartbeats 4000000 in
theorem begins_ok (pa pb : Option Addr) (ca cb : Nat) (xs ys : List ByteArray) (w : World) (hx : TextsIn w pa xs) (hy : TextsIn w pb ys) (lx : xs.length ≤ 1000000) (hc : ys.length ≤ cb) :
    Calls Tryz.prog 16 #[.slice pa xs.length ca, .slice pb ys.length cb] w fun e w' => e = .returned (.bool (decide (xs.length ≤ ys.length) && decide (xs = ys.take xs.length))) ∧ ∃ n, w' = w.drewN n := by
  by_cases hl : xs.length ≤ ys.length
  case neg =>
    have t0 : decide ((xs.length : Int) ≤ (ys.length : Int)) = false := decide_eq_false (by omega)
    have t0' : decide (xs.length ≤ ys.length) = false := decide_eq_false hl
    rw [t0']
    clear hl
    go_enter Tryz.func16, Tryz.ntmps16
    go_wp2
    go_ret
    exact ⟨rfl, 0, rfl⟩
  case pos =>
    have t0 : decide ((xs.length : Int) ≤ (ys.length : Int)) = true := decide_eq_true (by omega)
    have t0' : decide (xs.length ≤ ys.length) = true := decide_eq_true hl
    rw [t0', Bool.true_and]
    have htk : (ys.take xs.length).length = xs.length := by rw [List.length_take]; omega
    by_cases h0 : xs.length = 0
    · have hxe : xs = [] := List.eq_nil_of_length_eq_zero h0
      subst hxe
      have HS := Lib.hid (fun p c => same_ok pa p ca c [] [] w (fun i x h => by cases h) (fun i x h => by cases h) (by simp))
      have hcb : 0 ≤ cb := Nat.zero_le _
      clear hx hy hl htk h0 lx
      go_enter Tryz.func16, Tryz.ntmps16
      go_wp2_with fail
      refine (HS.out _ _).mono ?_
      rintro e w2 ⟨rfl, m, rfl⟩
      go_wp2
      go_ret
      exact ⟨by first | rfl | simp, m, rfl⟩
    · obtain ⟨b, o, rfl⟩ : ∃ b o, pb = some ⟨b, o, none⟩ := by
        obtain ⟨b, o, h1, _⟩ := hy 0 (ys[0]'(by omega)) (List.getElem?_eq_getElem (by omega))
        exact ⟨b, o, h1⟩
      have HS := same_ok pa (some ⟨b, o, none⟩) ca cb xs (ys.take xs.length) w hx (hy.take _) lx
      rw [htk] at HS
      replace HS := Lib.hid HS
      obtain ⟨n, hn⟩ : ∃ n, n = xs.length := ⟨_, rfl⟩
      obtain ⟨Q, hQ⟩ : ∃ Q, Q = decide (xs = ys.take xs.length) := ⟨_, rfl⟩
      rw [← hQ] at HS ⊢
      rw [← hn] at HS t0 t0' ⊢
      have hnc : n ≤ cb := by omega
      clear hx hy hl htk h0 lx hQ hn
      go_enter Tryz.func16, Tryz.ntmps16
      go_wp2_with fail
      refine HS.out.mono ?_
      rintro e w2 ⟨rfl, m, rfl⟩
      go_wp2
      go_ret
      exact ⟨by first | rfl | simp, m, rfl⟩
end Go.Proofs.YtajkldmpllphjaaGreatDoor
namespace Go.Proofs.YtajkldmpllphjaaGreatDoor
open Go.RowKit BlockMath TextNat

theorem info_str : (Tryz.prog.info? 9).map (fun i => (i.zero, i.size, i.bytes)) = some (some (.string ⟨#[]⟩), 1, 16) := by kernel_rfl
theorem str_parts : ∃ i, Tryz.prog.info? 9 = some i ∧ i.zero = some (.string ⟨#[]⟩) ∧ i.size = 1 ∧ i.bytes = 16 := by
  have h := info_str
  cases hi : Tryz.prog.info? 9 with
  | none => rw [hi] at h; cases h
  | some i =>
    rw [hi] at h
    simp only [Option.map_some, Option.some.injEq, Prod.mk.injEq] at h
    exact ⟨i, rfl, h.1, h.2.1, h.2.2⟩
theorem RowT.nil (w : World) (B : Nat) : RowT w B (.slice none 0 0) [] := ⟨rfl, .inl ⟨rfl, rfl⟩⟩
theorem RowT.below {w w' : World} {B : Nat} {v : Value} {xs : List ByteArray} (h : RowT w B v xs) (hb : Below w.heap.size w w') : RowT w' B v xs := OwnsM.below h hb fun k hk => (OwnsM.lt h k hk).2
theorem RowT.apart {w w' : World} {B : Nat} {S : Nat → Prop} {v : Value} {xs : List ByteArray} (h : RowT w B v xs) (ha : Apart S w w') (hn : ∀ k, v.ownBlock = some k → ¬ S k) : RowT w' B v xs := by
  refine ⟨h.1, ?_⟩
  rcases h.2 with h2 | ⟨g, cap, cur, lo, hi, h1, h2, h3, h4⟩
  · exact .inl h2
  · refine .inr ⟨g, cap, cur, lo, hi, h1, h2, ?_, h4⟩
    rw [ha.block g (Array.getElem?_eq_some_iff.1 h3).1 (hn g (by rw [h1]; rfl))]
    exact h3
theorem run_append_m_none {P : Program} (w : World) (base : Nat) (t ty e : TypeId) (i : TypeInfo) (ht : P.underlying t = some (.slice e)) (hi : P.info? e = some i) (v : Value) (n : Nat) (xs : List Value) (hown : OwnsM w base e v n xs) :
    (Builtin.append_ #[t, t] ty #[v, .slice none 0 0]).run P w = .ok v w := by
  rcases hown.2 with ⟨rfl, rfl⟩ | ⟨g, cap, cur, lo, hi', rfl, _, hg, _, hnc, _⟩
  · simp [Builtin.append_, run_underlying ht, sizeOf, typeInfo, hi, Builtin.lenOf, Builtin.firstCells]
  · simp [Builtin.append_, run_underlying ht, sizeOf, typeInfo, hi, Builtin.lenOf, Builtin.firstCells, storeCells, hnc]
/-- append of texts onto a row of one's own. -/
theorem app_row {ops : Array Oper} {rest : List Oper} {o : Oper} {ac : Act} {Q : Exit → Act → World → Prop} {w : World} (hgd : o.guard = none) (s x : Operand)
    (ho : o.op = .call { callee := .builtin .append, args := #[s, x], argTypes := #[34, 34] })
    (B : Nat) (v : Value) (xs : List ByteArray) (hs : ac.eval s = v) (hown : RowT w B v xs) (pp : Option Addr) (c : Nat) (ys : List ByteArray) (hx : ac.eval x = .slice pp ys.length c) (hnews : TextsIn w pp ys) (hc : pp = none → c = 0) (hyc : ys.length ≤ c) (hz : xs.length + ys.length ≤ 1000000) (hB : B ≤ w.heap.size)
    (h : ∀ v' w', RowT w' B v' (xs ++ ys) → w.grownBy w' v.ownBlock → (∀ k, v'.ownBlock = some k → v.ownBlock = some k ∨ w.heap.size ≤ k) → wpList Tryz.prog ops Q rest (ac.put o.dst v') w') : wpList Tryz.prog ops Q (o :: rest) ac w := by
  obtain ⟨ib, hib, hb0, hb1, hb2⟩ := str_parts
  cases pp with
  | none =>
    have hc0 := hc rfl
    subst hc0
    have hy : ys = [] := List.eq_nil_of_length_eq_zero (by omega)
    subst hy
    refine wpList_plain hgd fun K hK => ?_
    have hr := run_append_m_none (P := Tryz.prog) w B 34 o.type 9 ib Tryz.underlying34 hib v xs.length _ hown
    unfold Oper.wp execOp
    have hx' : ac.eval x = .slice none 0 0 := hx
    simp only [ho, resolve, invoke, builtin, Sem.run_bind, Sem.run_pure, Result.andThen_ok, List.map_toArray, List.map_cons, List.map_nil, hs, hx', hr]
    exact hK _ _ (h v w (by rw [List.append_nil]; exact hown) ⟨rfl, rfl, rfl, Nat.le_refl _, fun _ _ _ => rfl⟩ fun k hk => .inl hk)
  | some ad =>
    have hcells : ∀ (j : Nat) (u : Value), (ys.map Value.string)[j]? = some u → w.cell? (ad.add j) = some u := by
      intro j u hu
      rw [List.getElem?_map] at hu
      obtain ⟨y, hy, rfl⟩ := Option.map_eq_some_iff.1 hu
      obtain ⟨b, off, hp, h1⟩ := hnews j y hy
      obtain rfl := Option.some.inj hp
      rw [WideShapes.add_plain]
      exact h1
    refine wpList_append_far hgd s x 34 ho B 9 ib (.string ⟨#[]⟩) 16 Tryz.underlying34 hib hb0 hb1 hb2 rfl v xs.length (xs.map Value.string) hs hown ad ys.length c (ys.map Value.string) hx (by rw [List.length_map]) hcells (fun u hu => by
      obtain ⟨y, _, rfl⟩ := List.mem_map.1 hu
      rfl) (by unfold maxLen; omega) (by omega) hB ?_
    intro v' w' h1 h2 h3
    refine h v' w' ?_ h2 h3
    unfold RowT
    rw [List.length_append, List.map_append]
    exact h1
end Go.Proofs.YtajkldmpllphjaaGreatDoor
