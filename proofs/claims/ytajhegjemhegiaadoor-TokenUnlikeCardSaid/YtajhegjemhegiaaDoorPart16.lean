/-
  Texts of one claim, merged.
  WirePutOk: The contract of the program's put of chapter 5. The conditions: the numbers' cells; 1 to 17 numbers; a text of at most 200,000 bytes.
  Mark2: Append onto a row of one's own of what lies in a slice of another slice type, nil allowed, for any program. No conditions but those typed.
  WireOuts: The contracts of the program's Num, Text, Flag, Vec of an Out of chapter 5. The conditions: texts of at most 200,000 bytes; vectors' cells.
-/
import Derived.Test.YtajhegjemhegiaaDoorPart14
import Derived.Test.YtajhegjemhegiaaDoorPart11
import Derived.Test.YtajhegjemhegiaaDoorPart13
namespace Go.Proofs.YtajhegjemhegiaaDoor
open Go.RowKit TextNat

theorem OutAt.drew {w : World} {pb : Nat} {p : WireMath.Put} (h : OutAt w pb p) : OutAt w.drew pb p := h.below (Below.refl _ _).drew
/-- A thing more. -/
theorem OutAt.more {w : World} {pb : Nat} {p : WireMath.Put} {b : List Nat} {T : TypeId} {a : Option Addr} (h : OutAt w pb p) (ha : w.cell? ⟨pb, 0, none⟩ = some (.pointer a)) (hb : p.bad = none) (hb0 : 0 < b.length) (hl : ¬ 65536 < p.out.length + b.length) (hby : ∀ x ∈ b, x < 256) :
    OutAt (((w.alloc (.cells #[.pointer a, .string (txt b)] T)).setCell ⟨pb, 0, none⟩ (.pointer (some ⟨w.heap.size, 0, none⟩))).setCell ⟨pb, 1, none⟩ (.int .i64 ((p.out.length + b.length : Nat) : Int))) pb ⟨p.out ++ b, none⟩ := by
  have hp := h.lt
  obtain ⟨l, a', h1, h2, h3⟩ := h.last
  obtain rfl : a = a' := by rw [ha] at h3; simpa using h3
  have hA : But pb w (w.alloc (.cells #[.pointer a, .string (txt b)] T)) := (But.refl pb w).alloc _
  obtain ⟨W1, hW1⟩ : ∃ W1, W1 = w.alloc (.cells #[.pointer a, .string (txt b)] T) := ⟨_, rfl⟩
  have k0 : W1.cell? ⟨w.heap.size, 0, none⟩ = some (.pointer a) := by rw [hW1]; simp
  have k1 : W1.cell? ⟨w.heap.size, 1, none⟩ = some (.string (txt b)) := by rw [hW1]; simp
  have hB1 : Below w.heap.size w W1 := by rw [hW1]; exact (Below.refl _ _).alloc (Nat.le_refl _) _
  have h' := h.below hB1
  rw [← hW1]
  have hA1 : But pb w W1 := by rw [hW1]; exact hA
  have t1 : Things pb W1 (b :: l) (some ⟨w.heap.size, 0, none⟩) := ⟨w.heap.size, a, rfl, hb0, by omega, k0, k1, h1.but hA1⟩
  have hS : But pb W1 ((W1.setCell ⟨pb, 0, none⟩ (.pointer (some ⟨w.heap.size, 0, none⟩))).setCell ⟨pb, 1, none⟩ (.int .i64 ((p.out.length + b.length : Nat) : Int))) := (But.set pb 0 W1 _).trans (But.set pb 1 _ _)
  refine ⟨⟨b :: l, some ⟨w.heap.size, 0, none⟩, t1.but hS, ?_, ?_⟩, ?_, ?_, ?_, ?_, ?_, ?_, ?_, ?_⟩
  · rw [List.reverse_cons, List.flatten_append, h2]
    simp
  · refine (World.cell?_setCell_other _ ⟨pb, 1, none⟩ ⟨pb, 0, none⟩ _ (by simp)).trans ?_
    obtain ⟨l', a', h1', h2', h3'⟩ := h'.last
    exact World.cell?_setCell_same _ _ _ h3'
  · show _ = some (Value.int .i64 (((p.out ++ b).length : Nat) : Int))
    rw [List.length_append]
    exact World.cell?_setCell_same _ _ _ ((World.cell?_setCell_other _ ⟨pb, 0, none⟩ ⟨pb, 1, none⟩ _ (by simp)).trans h'.size)
  · have hf := h'.fault
    rw [hb] at hf
    exact (World.cell?_setCell_other _ ⟨pb, 1, none⟩ ⟨pb, 2, none⟩ _ (by simp)).trans ((World.cell?_setCell_other _ ⟨pb, 0, none⟩ ⟨pb, 2, none⟩ _ (by simp)).trans hf)
  · rw [World.frozen?_setCell, World.frozen?_setCell]; exact h'.free0
  · rw [World.frozen?_setCell, World.frozen?_setCell]; exact h'.free1
  · rw [World.frozen?_setCell, World.frozen?_setCell]; exact h'.free2
  · intro x hx
    rcases List.mem_append.1 hx with hx | hx
    · exact h.bytes x hx
    · exact hby x hx
  · show (p.out ++ b).length ≤ 65536
    rw [List.length_append]; omega
  · intro c k e
    cases e

set_option maxRecDepth 100000 in
set_option maxHeartbeats 4000000 in
theorem put_ok (pb : Nat) (p : WireMath.Put) (s : ByteArray) (pp : Option Addr) (cap : Nat) (zs : List Int) (w : World) (h : OutAt w pb p) (hz : Ints w pp zs) (hs : s.size ≤ 200000) (h1 : 0 < zs.length) (hl : zs.length ≤ 17) :
    Calls Tryd.prog 65 #[.pointer (some ⟨pb, 0, none⟩), .string s, .slice pp zs.length cap] w fun e w' => e = .returned (.tuple #[]) ∧ OutAt w' pb (WireMath.putN p zs (nats s)) ∧ But pb w w' := by
  have c1 := h.size
  have c2 := h.fault
  have HO := Lib.hid h
  cases hb : p.bad with
  | some q =>
    obtain ⟨d, k⟩ := q
    rw [hb] at c2
    have c2' : w.cell? ⟨pb, 2, none⟩ = some (.int .i64 (d : Int)) := c2
    have t1 : ((d : Int) == 0) = false := by rw [beq_eq_false_iff_ne]; have := (h.bad d k hb).2; omega
    have t1' : (d == 0) = false := by rw [beq_eq_false_iff_ne]; have := (h.bad d k hb).2; omega
    have HR := Lib.hid (WireMath.putN_bad hb zs (nats s))
    clear h c2 hb
    go_enter Tryd.func65, Tryd.ntmps65
    go_wp2
    (try simp only [Exit.inBlock, Exit.then]); refine bodyPost_ret (results_none rfl _ _ _) rfl ?_
    rw [HR.out]
    exact ⟨rfl, HO.out, But.refl _ _⟩
  | none =>
    rw [hb] at c2
    have c2' : w.cell? ⟨pb, 2, none⟩ = some (.int .i64 0) := c2
    obtain ⟨N, hN⟩ : ∃ N, N = zs.length := ⟨_, rfl⟩
    have HN := Lib.hid hN
    have HZ := Lib.hid hz
    have HBad := Lib.hid hb
    rw [← hN] at h1 hl ⊢
    clear h c2 hz hN hb
    go_enter Tryd.func65, Tryd.ntmps65
    go_wp2
    have HE0 := Lib.hid (show OwnsM w w.heap.size 5 (.slice none 0 0) 0 (natVals .u8 []) from ⟨rfl, .inl ⟨rfl, rfl⟩⟩)
    go_loopg [6, 20] N (fun gh s6 s20 wx => ∃ i : Nat, i + gh = N ∧ s20 = .int .i64 (i : Int) ∧ (∃ E : List Nat, OwnsM wx w.heap.size 5 s6 E.length (natVals .u8 E) ∧ Hid (E = WireMath.numsBytes (zs.take i))) ∧ Hid ((zs.take i).all WireMath.mayNum = true) ∧ Below w.heap.size w wx)
    case atStart => exact ⟨0, by omega, by go_num, ⟨[], HE0.out, Lib.hid rfl⟩, Lib.hid rfl, Below.refl _ _⟩
    case round =>
      obtain ⟨i, hi, rfl, ⟨E, hown, hE⟩, hall, hbl⟩ := hrel
      obtain ⟨p6, c6, rfl⟩ := hown.shape
      have HOw := Lib.hid hown
      have HB := Lib.hid hbl
      have HX := Lib.hid (HO.out.below hbl)
      have HZr := Lib.hid (HZ.out.grown hbl)
      have hEl : E.length ≤ 200 := by
        have h1 := WireMath.numsBytes_len (zs.take i)
        rw [hE.out]
        rw [List.length_take] at h1
        omega
      clear hown hbl HE0
      by_cases hiN : i < N
      · have t2 : decide ((i : Int) < (N : Int)) = true := decide_eq_true (by omega)
        have t2' : decide (i < N) = true := decide_eq_true hiN
        obtain ⟨z, hzz⟩ : ∃ z, zs[i]? = some z := ⟨_, List.getElem?_eq_getElem (by rw [← HN.out]; exact hiN)⟩
        obtain ⟨hr, b, off, rfl, hc⟩ := HZr.out _ _ hzz
        by_cases hm : WireMath.mayNum z = true
        · have hm' := hm
          unfold WireMath.mayNum WireMath.top at hm'
          simp only [Bool.and_eq_true, decide_eq_true_eq] at hm'
          have t3 : decide (z < 0) = false := decide_eq_false (by omega)
          have t4 : decide (4611686018427387903 < z) = false := decide_eq_false (by omega)
          obtain ⟨n, hn⟩ : ∃ n : Nat, z = (n : Int) := ⟨z.toNat, by omega⟩
          have HS := Lib.hid (spell_ok n w.heap.size _ E wr HOw.out (by omega) HB.out.size (by omega))
          rw [← hn] at HS
          have htk : zs.take (i + 1) = zs.take i ++ [z] := by rw [List.take_add_one, hzz]; rfl
          have HE2 := Lib.hid (show E ++ WireMath.num n = WireMath.numsBytes (zs.take (i + 1)) by rw [htk, WireMath.numsBytes_snoc, ← hE.out, hn]; rfl)
          have HA2 := Lib.hid (show (zs.take (i + 1)).all WireMath.mayNum = true by rw [htk, List.all_append, hall.out]; simp [hm])
          clear hzz hm hm' hn htk hE hall HOw
          obtain ⟨el, hel⟩ : ∃ el, el = E.length := ⟨_, rfl⟩
          have HEL := Lib.hid hel
          rw [← hel] at HS hEl ⊢
          clear hel
          go_wp2_with (go_at_call 81; refine HS.out.mono ?_; rintro e w2 ⟨v2, rfl, ho2, hb2⟩; have HO2 := Lib.hid ho2; have HB2 := Lib.hid (HB.out.trans hb2); clear ho2 hb2)
          go_roundg (N - (i + 1))
          case measure => omega
          case rel => exact ⟨i + 1, by omega, by go_num, ⟨E ++ WireMath.num n, HO2.out, HE2⟩, HA2, HB2.out⟩
        · have hm' : WireMath.mayNum z = false := by simpa using hm
          have HF := Lib.hid (WireMath.putN_arg HBad.out hzz hm' (nats s))
          have HRf := Lib.hid (refuse_ok pb 1 p wr HX.out (.inl rfl))
          have HFl := Lib.hid (show fail_ p 1 = ⟨p.out, some (1, p.out.length)⟩ by unfold fail_; rw [HBad.out])
          unfold WireMath.mayNum WireMath.top at hm'
          clear hzz hE hall HOw hm
          by_cases hneg : z < 0
          · have t3 : decide (z < 0) = true := decide_eq_true hneg
            clear hm'
            go_wp2_with (go_at_call 67; refine HRf.out.mono ?_; rintro e w2 ⟨rfl, ho2, hb2⟩; have HO2 := Lib.hid ho2; have HB2 := Lib.hid ((But.of HB.out).trans hb2); clear ho2 hb2)
            (try simp only [Exit.inBlock, Exit.then]); refine bodyPost_ret (results_none rfl _ _ _) rfl ?_
            rw [HF.out, ← HFl.out]
            exact ⟨rfl, HO2.out, HB2.out⟩
          · have t3 : decide (z < 0) = false := decide_eq_false hneg
            have t4 : decide (4611686018427387903 < z) = true := decide_eq_true (by simp at hm'; omega)
            clear hm'
            go_wp2_with (go_at_call 67; refine HRf.out.mono ?_; rintro e w2 ⟨rfl, ho2, hb2⟩; have HO2 := Lib.hid ho2; have HB2 := Lib.hid ((But.of HB.out).trans hb2); clear ho2 hb2)
            (try simp only [Exit.inBlock, Exit.then]); refine bodyPost_ret (results_none rfl _ _ _) rfl ?_
            rw [HF.out, ← HFl.out]
            exact ⟨rfl, HO2.out, HB2.out⟩
      · obtain rfl : i = N := by omega
        obtain rfl : gk = 0 := by omega
        have t2' : decide (i < i) = false := decide_eq_false (by omega)
        have htk : zs.take i = zs := by rw [HN.out]; exact List.take_length
        have hE' := hE.out
        have hall' := hall.out
        rw [htk] at hE' hall'
        have HE := Lib.hid hE'
        have HA := Lib.hid hall'
        clear hE hall hE' hall' htk
        obtain ⟨el, hel⟩ : ∃ el, el = E.length := ⟨_, rfl⟩
        obtain ⟨pl, hpl⟩ : ∃ pl, pl = p.out.length := ⟨_, rfl⟩
        have hp64 : pl ≤ 65536 := by rw [hpl]; exact HX.out.long
        have hpe : 0 < el := by
          rw [hel, HE.out]
          have := HN.out
          cases zs with
          | nil => rw [List.length_nil] at this; omega
          | cons z r =>
            have h1 := WireMath.num_len_pos z.toNat
            show 0 < (WireMath.num z.toNat ++ WireMath.numsBytes r).length
            rw [List.length_append]; omega
        have c1r : wr.cell? ⟨pb, 1, none⟩ = some (.int .i64 (pl : Int)) := by rw [hpl]; exact HX.out.size
        have f1 : IntKind.i64.wrap ((pl : Int) + (el : Int)) = (pl : Int) + (el : Int) := by rw [IntKind.wrap_i64]; omega
        have f2 : IntKind.i64.wrap ((pl : Int) + (el : Int) + (s.size : Int)) = (pl : Int) + (el : Int) + (s.size : Int) := by rw [IntKind.wrap_i64]; omega
        have hlen : (WireMath.numsBytes zs ++ nats s).length = el + s.size := by rw [List.length_append, nats_len, ← HE.out, hel]
        by_cases hlong : 65536 < pl + el + s.size
        · have t5 : decide ((65536 : Int) < (pl : Int) + (el : Int) + (s.size : Int)) = true := decide_eq_true (by omega)
          have HF := Lib.hid (WireMath.putN_long HBad.out HA.out (s := nats s) (by rw [hlen]; omega))
          have HRf := Lib.hid (refuse_ok pb 3 p wr HX.out (.inr rfl))
          have HFl := Lib.hid (show fail_ p 3 = ⟨p.out, some (3, p.out.length)⟩ by unfold fail_; rw [HBad.out])
          rw [← hel] at *
          clear hlen hpl HOw
          go_wp2_with (go_at_call 67; refine HRf.out.mono ?_; rintro e w2 ⟨rfl, ho2, hb2⟩; have HO2 := Lib.hid ho2; have HB2 := Lib.hid ((But.of HB.out).trans hb2); clear ho2 hb2)
          (try simp only [Exit.inBlock, Exit.then]); refine bodyPost_ret (results_none rfl _ _ _) rfl ?_
          rw [HF.out, ← HFl.out]
          exact ⟨rfl, HO2.out, HB2.out⟩
        · have t5 : decide ((65536 : Int) < (pl : Int) + (el : Int) + (s.size : Int)) = false := decide_eq_false (by omega)
          have HF := Lib.hid (WireMath.putN_ok HBad.out HA.out (s := nats s) (by rw [hlen]; omega))
          obtain ⟨l, a, ht1, ht2, ht3⟩ := HX.out.last
          have g0 := HX.out.free0
          have g1 := HX.out.free1
          obtain ⟨g6, cap6, hv6, _, _, _, _, hcell6, _⟩ := HOw.out.open (by rw [← hel]; exact hpe)
          have hp6 : p6 = some ⟨g6, 0, none⟩ := by simpa using congrArg (fun v => match v with | .slice p _ _ => p | _ => none) hv6
          subst hp6
          have HCv := text_row wr.drew g6 c6 E (by rw [HE.out]; exact WireMath.numsBytes_lt zs HA.out) hcell6
          have d0 : wr.drew.cell? ⟨pb, 0, none⟩ = some (.pointer a) := ht3
          obtain ⟨B, hB⟩ : ∃ B, B = wr.heap.size := ⟨_, rfl⟩
          have hpB : pb < B := by rw [hB]; exact HX.out.lt
          obtain ⟨WA, hWA⟩ : ∃ WA, WA = wr.alloc (.cells #[.pointer a, .string (txt E ++ s)] 126) := ⟨_, rfl⟩
          have hBA : Below wr.heap.size wr WA := by rw [hWA]; exact (Below.refl _ _).alloc (Nat.le_refl _) _
          have a0 : WA.cell? ⟨pb, 0, none⟩ = some (.pointer a) := (hBA.cell (p := ⟨pb, 0, none⟩) HX.out.lt).trans ht3
          have ag0 : WA.frozen? ⟨pb, 0, none⟩ = false := (hBA.frozen (p := ⟨pb, 0, none⟩) HX.out.lt).trans g0
          have a1 : WA.cell? ⟨pb, 1, none⟩ = some (.int .i64 (pl : Int)) := (hBA.cell (p := ⟨pb, 1, none⟩) HX.out.lt).trans c1r
          have ag1 : WA.frozen? ⟨pb, 1, none⟩ = false := (hBA.frozen (p := ⟨pb, 1, none⟩) HX.out.lt).trans g1
          have f4 : IntKind.i64.wrap ((el : Int) + (s.size : Int)) = (el : Int) + (s.size : Int) := by rw [IntKind.wrap_i64]; omega
          have f5 : IntKind.i64.wrap ((pl : Int) + ((el : Int) + (s.size : Int))) = (pl : Int) + ((el : Int) + (s.size : Int)) := by rw [IntKind.wrap_i64]; omega
          have hby : ∀ x ∈ WireMath.numsBytes zs ++ nats s, x < 256 := fun x hx => by
            rcases List.mem_append.1 hx with hx | hx
            · exact WireMath.numsBytes_lt zs HA.out x hx
            · exact nats_lt s x hx
          rw [← HE.out] at hlen hby
          have hM := HX.out.more (T := 126) ht3 HBad.out (b := E ++ nats s) (by rw [hlen]; omega) (by rw [hlen]; omega) hby
          rw [← txt_append, txt_nats, hlen, ← hpl, show ((pl + (el + s.size) : Nat) : Int) = (pl : Int) + ((el : Int) + (s.size : Int)) by omega] at hM
          have HM := Lib.hid hM
          rw [hWA] at a0 ag0 a1 ag1
          rw [← hel] at HCv ⊢
          have HEL := Lib.hid hel
          have HPL := Lib.hid hpl
          have HWA := Lib.hid hWA
          have HBB := Lib.hid hB
          have HLen := Lib.hid hlen
          have f3 : ¬ 9223372036854775807 < (txt E).size + s.size := by rw [txt_len, ← hel]; omega
          clear ht1 ht2 hcell6 hv6 hel hpl hWA hB hlen hBA hby hM
          go_wp2
          go_region
          all_goals
            go_wp2
            go_end0
            rw [HF.out, ← HE.out]
            exact ⟨rfl, HM.out.drew, ((((But.of HB.out).alloc _).trans (But.set pb 0 _ _)).trans (But.set pb 1 _ _)).drew⟩
end Go.Proofs.YtajhegjemhegiaaDoor
namespace Go.Proofs.YtajhegjemhegiaaDoor
open Go.RowKit

section
variable {P : Program}
/-- The second slice's type plays no part. -/
theorem append_types (t t2 ty e e2 : TypeId) (i : TypeInfo) (ht : P.underlying t = some (.slice e)) (ht2 : P.underlying t2 = some (.slice e2)) (hi : P.info? e = some i) (b : Option Addr) (n c : Nat) (x : Value) (w : World) :
    (Builtin.append_ #[t, t2] ty #[.slice b n c, x]).run P w = (Builtin.append_ #[t, t] ty #[.slice b n c, x]).run P w := by
  simp [Builtin.append_, run_underlying ht, run_underlying ht2, sizeOf, typeInfo, hi]

theorem run_append_any (w : World) (base : Nat) (t t2 ty e e2 : TypeId) (i : TypeInfo) (z : Value) (bytes : Nat) (ht : P.underlying t = some (.slice e)) (ht2 : P.underlying t2 = some (.slice e2)) (hi : P.info? e = some i) (hz : i.zero = some z)
    (hsize : i.size = 1) (hby : i.bytes = bytes) (hzs : z.cells.size = 1)
    (v : Value) (n : Nat) (xs : List Value) (hown : OwnsM w base e v n xs)
    (pp : Option Addr) (m c : Nat) (news : List Value) (hl : news.length = m) (hnews : ∀ j u, news[j]? = some u → ∃ ad, pp = some ad ∧ w.cell? (ad.add j) = some u) (h1 : ∀ u ∈ news, u.oneCell' = true)
    (h63 : n + m ≤ maxLen) (hbytes : (n + m) * bytes ≤ 140737488355328) (hbase : base ≤ w.heap.size) :
    ∃ v' w', (Builtin.append_ #[t, t2] ty #[v, .slice pp m c]).run P w = .ok v' w' ∧ OwnsM w' base e v' (n + m) (xs ++ news) ∧ w.grownBy w' v.ownBlock := by
  obtain ⟨p0, c0, rfl⟩ := hown.shape
  rw [append_types t t2 ty e e2 i ht ht2 hi]
  cases pp with
  | some ad =>
    exact run_append_m w base t ty e i z bytes ht hi hz hsize hby hzs _ n xs hown ad m c news hl (fun j u hj => by
      obtain ⟨ad', h, hc⟩ := hnews j u hj
      obtain rfl := Option.some.inj h
      exact hc) h1 h63 hbytes hbase
  | none =>
    obtain rfl : news = [] := by
      cases news with
      | nil => rfl
      | cons u r =>
        obtain ⟨ad, h, _⟩ := hnews 0 u rfl
        cases h
    obtain rfl : m = 0 := hl.symm
    refine ⟨_, w, ?_, by rw [List.append_nil]; exact hown, ⟨rfl, rfl, rfl, Nat.le_refl _, fun k _ _ => rfl⟩⟩
    have hnc : n ≤ c0 := by
      rcases hown.2 with ⟨h, h0⟩ | ⟨g, cap, cur, lo, hi', h, hbg, hg, hmk, hnc, _⟩
      · omega
      · have : c0 = cap := by simpa using congrArg (fun v => match v with | .slice _ _ c => c | _ => 0) h
        omega
    cases p0 <;> simp [Builtin.append_, run_underlying ht, sizeOf, typeInfo, hi, Builtin.lenOf, Builtin.firstCells, hnc, storeCells]

theorem wpList_append_any {w : World} {ops : Array Oper} {rest : List Oper} {o : Oper} {a : Act} {Q : Exit → Act → World → Prop} (hgd : o.guard = none) (s x : Operand) (t t2 : TypeId)
    (ho : o.op = .call { callee := .builtin .append, args := #[s, x], argTypes := #[t, t2] })
    (base : Nat) (e e2 : TypeId) (i : TypeInfo) (z : Value) (bytes : Nat) (ht : P.underlying t = some (.slice e)) (ht2 : P.underlying t2 = some (.slice e2)) (hi : P.info? e = some i) (hz : i.zero = some z)
    (hsize : i.size = 1) (hby : i.bytes = bytes) (hzs : z.cells.size = 1)
    (v : Value) (n : Nat) (xs : List Value) (hs : a.eval s = v) (hown : OwnsM w base e v n xs)
    (pp : Option Addr) (m c : Nat) (news : List Value) (hx : a.eval x = .slice pp m c) (hl : news.length = m) (hnews : ∀ j u, news[j]? = some u → ∃ ad, pp = some ad ∧ w.cell? (ad.add j) = some u) (h1 : ∀ u ∈ news, u.oneCell' = true)
    (h63 : n + m ≤ maxLen) (hbytes : (n + m) * bytes ≤ 140737488355328) (hbase : base ≤ w.heap.size)
    (h : ∀ v' w', OwnsM w' base e v' (n + m) (xs ++ news) → w.grownBy w' v.ownBlock → wpList P ops Q rest (a.put o.dst v') w') : wpList P ops Q (o :: rest) a w := by
  refine wpList_plain hgd fun K hK => ?_
  obtain ⟨v', w', hr, h2, h3⟩ := run_append_any (P := P) w base t t2 o.type e e2 i z bytes ht ht2 hi hz hsize hby hzs v n xs hown pp m c news hl hnews h1 h63 hbytes hbase
  unfold Oper.wp execOp
  simp only [ho, resolve, invoke, builtin, Sem.run_bind, Sem.run_pure, Result.andThen_ok, List.map_toArray, List.map_cons, List.map_nil, hs, hx, hr]
  exact hK _ _ (h v' w' h2 h3)
end
end Go.Proofs.YtajhegjemhegiaaDoor
namespace Go.Proofs.YtajhegjemhegiaaDoor
open Go.RowKit TextNat

theorem ints_new (zs : List Int) (hz : ∀ z ∈ zs, -9223372036854775808 ≤ z ∧ z ≤ 9223372036854775807) (T : TypeId) (w : World) : Ints (w.alloc (.cells (zs.map (Value.int .i64)).toArray T)) (some ⟨w.heap.size, 0, none⟩) zs := fun i z hi => by
  refine ⟨hz z (List.mem_of_getElem? hi), w.heap.size, 0, rfl, ?_⟩
  rw [Nat.zero_add, cell_of_row _ w.heap.size i _ _ _ (heap_alloc_new w _), List.getElem?_toArray, List.getElem?_map, hi]
  rfl
theorem ints_own {w : World} {base : Nat} {T : TypeId} {p : Option Addr} {c : Nat} (zs : List Int) (hz : ∀ z ∈ zs, -9223372036854775808 ≤ z ∧ z ≤ 9223372036854775807) (n : Nat) (h : OwnsM w base T (.slice p n c) n (zs.map (Value.int .i64))) : Ints w p zs := fun i z hi => by
  have hn : zs.length = n := by have := h.1; rwa [List.length_map] at this
  have hlt : i < zs.length := by
    rcases Nat.lt_or_ge i zs.length with g | g
    · exact g
    · rw [List.getElem?_eq_none g] at hi; cases hi
  obtain ⟨g, cap, hv, _, _, _, _, hcell, _⟩ := h.open (by omega)
  have hp : p = some ⟨g, 0, none⟩ := by simpa using congrArg (fun v => match v with | .slice p _ _ => p | _ => none) hv
  refine ⟨hz z (List.mem_of_getElem? hi), g, 0, hp, ?_⟩
  rw [Nat.zero_add, hcell i (by omega), List.getElem?_map, hi]
  rfl

set_option maxRecDepth 100000 in
theorem num_ok (pb : Nat) (p : WireMath.Put) (n : Int) (w : World) (h : OutAt w pb p) (hn : -9223372036854775808 ≤ n ∧ n ≤ 9223372036854775807) :
    Calls Tryd.prog 43 #[.pointer (some ⟨pb, 0, none⟩), .int .i64 n] w fun e w' => e = .returned (.tuple #[]) ∧ OutAt w' pb (WireMath.putN p [n] []) ∧ But pb w w' := by
  have HP := Lib.hid (put_ok pb p ⟨#[]⟩ (some ⟨w.heap.size, 0, none⟩) 1 [n] (w.alloc (.cells #[.int .i64 n] 3)) (h.below ((Below.refl _ _).alloc (Nat.le_refl _) _)) (ints_new [n] (fun z hz => by rw [List.mem_singleton.1 hz]; exact hn) 3 w) (show 0 ≤ 200000 by omega) Nat.one_pos (show 1 ≤ 17 by omega))
  clear h
  go_enter Tryd.func43, Tryd.ntmps43
  go_wp2_with (go_at_call 65; refine HP.out.mono ?_; rintro e w2 ⟨rfl, ho, hb⟩)
  go_end0
  exact ⟨rfl, ho, ((But.refl pb w).alloc _).trans hb⟩

set_option maxRecDepth 100000 in
theorem text_ok (pb : Nat) (p : WireMath.Put) (s : ByteArray) (w : World) (h : OutAt w pb p) (hs : s.size ≤ 200000) :
    Calls Tryd.prog 42 #[.pointer (some ⟨pb, 0, none⟩), .string s] w fun e w' => e = .returned (.tuple #[]) ∧ OutAt w' pb (WireMath.putN p [(s.size : Int)] (nats s)) ∧ But pb w w' := by
  have HP := Lib.hid (put_ok pb p s (some ⟨w.heap.size, 0, none⟩) 1 [(s.size : Int)] (w.alloc (.cells #[.int .i64 (s.size : Int)] 3)) (h.below ((Below.refl _ _).alloc (Nat.le_refl _) _)) (ints_new [(s.size : Int)] (fun z hz => by rw [List.mem_singleton.1 hz]; omega) 3 w) hs (Nat.one_pos) (show 1 ≤ 17 by omega))
  clear h
  go_enter Tryd.func42, Tryd.ntmps42
  go_wp2_with (go_at_call 65; refine HP.out.mono ?_; rintro e w2 ⟨rfl, ho, hb⟩)
  go_end0
  exact ⟨rfl, ho, ((But.refl pb w).alloc _).trans hb⟩

end Go.Proofs.YtajhegjemhegiaaDoor
