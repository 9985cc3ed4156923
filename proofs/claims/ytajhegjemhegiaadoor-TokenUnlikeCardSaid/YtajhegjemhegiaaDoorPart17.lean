/-
  Texts of one claim, merged.
  WireVecs: The contracts of the program's Out of chapter 5: Flag and Vec. The conditions: what came in lies in memory.
  WireDone: The contract of the program's Done of an Out of chapter 5: all bytes, or the first fault with its place. No conditions but that the Out holds what it is said to.
  WireEnc: The contract of the program's EncodeWrite of chapter 5: a right write's bytes, or an error. The conditions: the vector's cells; the numbers are Go's.
-/
import Derived.Test.YtajhegjemhegiaaDoorPart16
import Derived.Test.YtajhegjemhegiaaDoorPart14
import Derived.Test.YtajhegjemhegiaaDoorPart06
import Derived.Deep.OwnRows
import Derived.Test.YtajhegjemhegiaaDoorPart15
import Derived.Test.YtajhegjemhegiaaDoorPart11
namespace Go.Proofs.YtajhegjemhegiaaDoor
open Go.RowKit TextNat

/-- A vector, or a fault. -/
def putVec (p : WireMath.Put) (zs : List Int) : WireMath.Put := if zs.length ≤ 16 ∧ whole_ zs = true then WireMath.putN p ((zs.length : Int) :: zs) [] else fail_ p 1
set_option maxRecDepth 100000 in
set_option maxHeartbeats 2000000 in
theorem vec_ok (pb : Nat) (p : WireMath.Put) (pp : Option Addr) (cap : Nat) (zs : List Int) (w : World) (h : OutAt w pb p) (hz : Ints w pp zs) (hl : zs.length ≤ 9223372036854775807) :
    Calls Tryd.prog 44 #[.pointer (some ⟨pb, 0, none⟩), .slice pp zs.length cap] w fun e w' => e = .returned (.tuple #[]) ∧ OutAt w' pb (putVec p zs) ∧ But pb w w' := by
  have HT := Lib.hid (trimmed_ok pp cap zs w hz hl)
  have HR := Lib.hid (refuse_ok pb 1 p w h (.inl rfl))
  obtain ⟨N, hN⟩ : ∃ N, N = zs.length := ⟨_, rfl⟩
  by_cases h16 : zs.length ≤ 16
  · have t1 : decide ((16 : Int) < (N : Int)) = false := decide_eq_false (by omega)
    have t1' : decide (16 < N) = false := decide_eq_false (by omega)
    cases htr : whole_ zs with
    | false =>
      rw [htr] at HT
      have HF := Lib.hid (show putVec p zs = fail_ p 1 by unfold putVec; rw [if_neg (by rw [htr]; simp)])
      rw [← hN] at HT ⊢
      clear h hz hl h16 htr hN
      go_enter Tryd.func44, Tryd.ntmps44
      go_wp2_with (first
        | (go_at_call 66; refine HT.out.mono ?_; rintro e w2 ⟨rfl, rfl⟩)
        | (go_at_call 67; refine HR.out.mono ?_; rintro e w2 ⟨rfl, ho, hb⟩))
      refine bodyPost_ret (results_none rfl _ _ _) rfl ?_
      rw [HF.out]
      exact ⟨rfl, ho, hb⟩
    | true =>
      rw [htr] at HT
      have HF := Lib.hid (show putVec p zs = WireMath.putN p ((zs.length : Int) :: zs) [] by unfold putVec; rw [if_pos ⟨h16, htr⟩])
      have HH := Lib.hid h
      have HZ := Lib.hid hz
      have HNN := Lib.hid hN
      have hN16 : N ≤ 16 := by omega
      have O1 : OwnsM (w.alloc (.cells #[.int .i64 (N : Int)] 3)) w.heap.size 3 (.slice (some ⟨w.heap.size, 0, none⟩) 1 1) 1 [.int .i64 (N : Int)] :=
        ⟨rfl, .inr ⟨w.heap.size, 1, _, 0, 0, rfl, Nat.le_refl _, heap_alloc_new w _, .inl rfl, Nat.le_refl _, by decide, rfl, rfl⟩⟩
      have HO1 := Lib.hid O1
      have hZ1 : ∀ j u, (zs.map (Value.int .i64))[j]? = some u → ∃ ad, pp = some ad ∧ (w.alloc (.cells #[.int .i64 (N : Int)] 3)).cell? (ad.add j) = some u := fun j u hj => by
        rw [List.getElem?_map] at hj
        cases hd : zs[j]? with
        | none => rw [hd] at hj; cases hj
        | some z =>
          rw [hd] at hj
          obtain rfl := Option.some.inj hj
          obtain ⟨_, b, off, hp, hc⟩ := hz.grown ((Below.refl _ _).alloc (Nat.le_refl _) (.cells #[.int .i64 (N : Int)] 3)) j z hd
          exact ⟨⟨b, off, none⟩, hp, by rw [WideShapes.add_plain]; exact hc⟩
      have HZ1 := Lib.hid hZ1
      have HZl := Lib.hid (show (zs.map (Value.int .i64)).length = N by rw [List.length_map, hN])
      have HZo := Lib.hid (show ∀ u ∈ zs.map (Value.int .i64), u.oneCell' = true from fun u hu => by
        obtain ⟨z, _, rfl⟩ := List.mem_map.1 hu
        rfl)
      have HZr := Lib.hid (show ∀ z ∈ (N : Int) :: zs, -9223372036854775808 ≤ z ∧ z ≤ 9223372036854775807 from fun z hm => by
        rcases List.mem_cons.1 hm with rfl | hm
        · omega
        · obtain ⟨i, hi⟩ := List.getElem?_of_mem hm
          exact (hz i z hi).1)
      obtain ⟨ii, hii, hi0, hi1, hi2⟩ := info_parts info_int
      rw [← hN] at HT ⊢
      clear h hz hl h16 htr hN O1 hZ1
      go_enter Tryd.func44, Tryd.ntmps44
      go_wp2_with (first
        | (go_at_call 66; refine HT.out.mono ?_; rintro e w2 ⟨rfl, rfl⟩)
        | (at_builtin; refine wpList_append_any rfl _ _ 28 29 rfl w2.heap.size 3 3 ii (.int .i64 0) 8 Tryd.underlying28 Tryd.underlying29 hii hi0 hi1 hi2 rfl _ _ _ rfl HO1.out pp N cap (zs.map (Value.int .i64)) rfl HZl.out HZ1.out HZo.out (by unfold maxLen; omega) (by omega) (by simp) ?_; intro v3 w3 hown3 hgrow3; have hb3 := below_grown HO1.out (Nat.le_refl _) ((Below.refl w2.heap.size w2).alloc (Nat.le_refl _) (.cells #[.int .i64 (N : Int)] 3)) hgrow3; obtain ⟨p3, c3, rfl⟩ := hown3.shape; have hp3 := put_ok pb p ⟨#[]⟩ p3 c3 ((N : Int) :: zs) w3 (HH.out.below hb3) (ints_own _ HZr.out (1 + N) hown3) (Nat.zero_le _) (Nat.succ_pos _) (by rw [List.length_cons, ← HNN.out]; omega); rw [List.length_cons, ← HNN.out, Nat.add_comm N 1] at hp3; have HP3 := Lib.hid hp3; have HB3 := Lib.hid hb3; clear hown3 hgrow3 hp3 hb3)
        | (go_at_call 65; refine HP3.out.mono ?_; rintro e w4 ⟨rfl, ho, hb⟩))
      go_end0
      rw [HF.out, ← HNN.out]
      exact ⟨rfl, ho, (But.of HB3.out).trans hb⟩
  · have t1 : decide ((16 : Int) < (N : Int)) = true := decide_eq_true (by omega)
    have t1' : decide (16 < N) = true := decide_eq_true (by omega)
    have HF := Lib.hid (show putVec p zs = fail_ p 1 by unfold putVec; rw [if_neg (fun h => h16 h.1)])
    rw [← hN] at HT ⊢
    clear h hz hl h16 hN
    go_enter Tryd.func44, Tryd.ntmps44
    go_wp2_with (go_at_call 67; refine HR.out.mono ?_; rintro e w2 ⟨rfl, ho, hb⟩)
    refine bodyPost_ret (results_none rfl _ _ _) rfl ?_
    rw [HF.out]
    exact ⟨rfl, ho, hb⟩
end Go.Proofs.YtajhegjemhegiaaDoor
namespace Go.Proofs.YtajhegjemhegiaaDoor
open Go.RowKit TextNat

/-- copy of a text into the midst of a row of one's own. -/
theorem run_copy_text_at {P : Program} (w : World) (dT sT ty elem : TypeId) (g o dLen dCap : Nat) (s : ByteArray) (l : List Nat) (t : TypeId)
    (hu : P.underlying dT = some (.slice elem)) (hs : (P.info? elem).map (·.size) = some 1) (hg : Arr g t .u8 l w) (hl : o + dLen ≤ l.length) (hsl : s.size ≤ dLen) :
    (Builtin.copy_ #[dT, sT] ty #[.slice (some ⟨g, o, none⟩) dLen dCap, .string s]).run P w =
      .ok (.int .i64 (s.size : Int)) (w.setRow g (natVals .u8 (l.take o ++ (nats s ++ l.drop (o + s.size)))).toArray) := by
  have e : List.map (fun b : UInt8 => Value.int IntKind.u8 (b.toNat : Int)) s.data.toList = natVals .u8 (nats s) := by simp [natVals, nats, Function.comp_def]
  have hv : List.take (Nat.min s.size dLen) (List.map (fun b : UInt8 => Value.int IntKind.u8 (b.toNat : Int)) s.data.toList) = natVals .u8 (nats s) := by
    rw [e, show Nat.min s.size dLen = s.size from Nat.min_eq_left hsl, List.take_of_length_le (by rw [natVals_len, nats_len]; omega)]
  have hst := run_storeCells_at (P := P) g o t (natVals .u8 (nats s)) 0 _ w hg (by simp only [List.size_toArray, natVals_len, nats_len]; omega) (fun v hv => by
    obtain ⟨z, _, rfl⟩ := List.mem_map.1 hv
    rfl)
  rw [natVals_len, nats_len] at hst
  simp only [Nat.add_zero] at hst
  have hdd : (natVals .u8 l).take o ++ natVals .u8 (nats s) ++ (natVals .u8 l).drop (o + s.size) = natVals .u8 (l.take o ++ (nats s ++ l.drop (o + s.size))) := by
    rw [natVals_append, natVals_append, List.append_assoc]
    simp [natVals, List.map_take, List.map_drop]
  rw [hdd] at hst
  cases hq : P.info? elem with
  | none => simp [hq] at hs
  | some i =>
    have h1 : i.size = 1 := by simpa [hq] using hs
    simp [Builtin.copy_, run_underlying hu, Builtin.lenOf, Builtin.firstCells, sizeOf, typeInfo, hq]
    rw [hv, hst]
    simp [Result.andThen, goInt]
    exact congrArg Nat.cast (Nat.min_eq_left hsl)
theorem wpList_copy_text_at {P : Program} {w : World} {ops : Array Oper} {rest : List Oper} {o : Oper} {a : Act} {Q : Exit → Act → World → Prop} (hgd : o.guard = none) (d x : Operand) (dT sT : TypeId)
    (ho : o.op = .call { callee := .builtin .copy, args := #[d, x], argTypes := #[dT, sT] }) (elem : TypeId) (hu : P.underlying dT = some (.slice elem)) (hsz : (P.info? elem).map (·.size) = some 1)
    (g off dLen dCap : Nat) (s : ByteArray) (hd : a.eval d = .slice (some ⟨g, off, none⟩) dLen dCap) (hx : a.eval x = .string s) (t : TypeId) (l : List Nat) (hg : Arr g t .u8 l w) (hl : off + dLen ≤ l.length) (hsl : s.size ≤ dLen)
    (C : Array Value) (hC : C = (natVals .u8 (l.take off ++ (nats s ++ l.drop (off + s.size)))).toArray)
    (h : wpList P ops Q rest (a.put o.dst (.int .i64 (s.size : Int))) (w.setRow g C)) : wpList P ops Q (o :: rest) a w := by
  refine wpList_plain hgd fun K hK => ?_
  have hrun := run_copy_text_at (P := P) w dT sT o.type elem g off dLen dCap s l t hu hsz hg hl hsl
  unfold Oper.wp
  simp [execOp, ho, resolve, invoke, builtin, hd, hx, hrun, Result.andThen]
  exact hK _ _ (hC ▸ h)
theorem made_zeros (n : Nat) : madeCells #[Value.int .u8 0] n = (natVals .u8 (List.replicate n 0)).toArray := by
  apply Array.toList_inj.1
  rw [toList_madeCells_one]
  simp [natVals]
theorem below_setRow {B g : Nat} {w w' : World} (h : Below B w w') (hg : B ≤ g) (C : Array Value) : Below B w (w'.setRow g C) :=
  ⟨h.os, h.tape, h.output, by simpa using h.size, fun k hk => (setRow_other w' g k C (by omega)).trans (h.block k hk)⟩

/-- What Done answers: all bytes, or the first fault. -/
def DoneIs (w : World) (p : WireMath.Put) (e : Ending) : Prop :=
  match p.bad with
  | none => e = .returned (.tuple #[.string (txt p.out), .nilIface])
  | some (c, k) => ∃ r, e = .returned (.tuple #[.string ⟨#[]⟩, r]) ∧ Chain w.heap.size w [(⟨#[119, 105, 114, 101]⟩, (k : Int))] (.iface 40 (.int .i64 (c : Int))) r

set_option maxRecDepth 100000 in
set_option maxHeartbeats 4000000 in
theorem done_ok (pb : Nat) (p : WireMath.Put) (w : World) (h : OutAt w pb p) :
    Calls Tryd.prog 45 #[.pointer (some ⟨pb, 0, none⟩)] w fun e w' => DoneIs w' p e ∧ Below w.heap.size w w' := by
  have c1 := h.size
  have c2 := h.fault
  have HO := Lib.hid h
  cases hb : p.bad with
  | some q =>
    obtain ⟨d, k⟩ := q
    rw [hb] at c2
    have c2' : w.cell? ⟨pb, 2, none⟩ = some (.int .i64 (d : Int)) := c2
    obtain ⟨hk, hd⟩ := h.bad d k hb
    rw [← hk] at c1
    have t1 : ((d : Int) == 0) = false := by rw [beq_eq_false_iff_ne]; omega
    have t1' : (d == 0) = false := by rw [beq_eq_false_iff_ne]; omega
    have HA := Lib.hid (fun w1 => at_chain ⟨#[119, 105, 114, 101]⟩ (k : Int) [] (d : Int) (.iface 40 (.int .i64 (d : Int))) w1 rfl)
    have HD := Lib.hid (show ∀ w' r, Chain w'.heap.size w' [(⟨#[119, 105, 114, 101]⟩, (k : Int))] (.iface 40 (.int .i64 (d : Int))) r → DoneIs w' p (.returned (.tuple #[.string ⟨#[]⟩, r])) from fun w' r hr => by unfold DoneIs; rw [hb]; exact ⟨r, rfl, hr⟩)
    clear h c2 hb hk hd
    go_enter Tryd.func45, Tryd.ntmps45
    go_wp2
    go_still_tail 9, (by kernel_rfl)
    change wpList _ _ _ _ _ w.drew
    go_wp2_with (go_at_call 17; refine (HA.out _).mono ?_; rintro e w2 ⟨r, rfl, hc, hb⟩)
    go_ret2
    exact ⟨HD.out _ _ hc, Below.trans (Below.refl _ _).drew hb⟩
  | none =>
    rw [hb] at c2
    have c2' : w.cell? ⟨pb, 2, none⟩ = some (.int .i64 0) := c2
    obtain ⟨N, hN⟩ : ∃ N, N = p.out.length := ⟨_, rfl⟩
    have hN16 : N ≤ 65536 := by rw [hN]; exact h.long
    rw [← hN] at c1
    obtain ⟨l, a, ht, hfl, c0⟩ := h.last
    have hmk := run_make_row' (P := Tryd.prog) 43 5 (.int .u8 0) 1 Tryd.underlying43 info_byte rfl .i64 .i64 N (by omega) (by omega)
    have hW1 : ∀ o, Below w.heap.size w (w.alloc o) := fun o => (Below.refl _ _).alloc (Nat.le_refl _) o
    have k0 : ∀ o, (w.alloc o).cell? ⟨pb, 0, none⟩ = some (.pointer a) := fun o => ((hW1 o).cell (p := ⟨pb, 0, none⟩) h.lt).trans c0
    have k1 : ∀ o, (w.alloc o).cell? ⟨pb, 1, none⟩ = some (.int .i64 (N : Int)) := fun o => ((hW1 o).cell (p := ⟨pb, 1, none⟩) h.lt).trans c1
    have hA0 : Arr w.heap.size 5 .u8 (List.replicate N 0) (w.alloc (.cells (madeCells #[.int .u8 0] N) 5)) := by rw [made_zeros]; exact Arr.new _ _ _ _
    have HA0 := Lib.hid hA0
    have HB0 := Lib.hid (hW1 (.cells (madeCells #[.int .u8 0] N) 5))
    have HN := Lib.hid hN
    have HTh := Lib.hid ht
    have HFl := Lib.hid hfl
    have HBy := Lib.hid h.bytes
    have hlen : l.reverse.flatten.length = N := by rw [hfl, hN]
    have HL := Lib.hid hlen
    have HD := Lib.hid (show ∀ w', DoneIs w' p (.returned (.tuple #[.string (txt p.out), .nilIface])) from fun w' => by unfold DoneIs; rw [hb])
    clear h c2 hb hN ht hfl hA0 hW1 hlen
    go_enter Tryd.func45, Tryd.ntmps45
    go_wp2
    go_loopg [5, 6] l.length (fun gh s5 s6 wx => ∃ (rem done : List (List Nat)) (en : Nat) (q : Option Addr) (R : List Nat), rem.length = gh ∧ s5 = .int .i64 (en : Int) ∧ s6 = .pointer q ∧ Hid (l = done ++ rem) ∧ Hid (en = rem.reverse.flatten.length) ∧ Hid (Things pb w rem q) ∧ Hid (Arr w.heap.size 5 .u8 R wx) ∧ Hid (R.length = N) ∧ Hid (R.drop en = done.reverse.flatten) ∧ Hid (en ≤ N) ∧ Hid (Below w.heap.size w wx))
    case atStart => exact ⟨l, [], N, a, List.replicate N 0, rfl, by go_num, rfl, Lib.hid rfl, Lib.hid HL.out.symm, HTh, HA0, Lib.hid List.length_replicate, Lib.hid (by simp), Lib.hid (Nat.le_refl _), HB0⟩
    case round =>
      obtain ⟨rem, done, en, q, R, hrl, rfl, rfl, hl, hen, hth, HA, hR, hd, hle, HB⟩ := hrel
      clear HA0 HB0 k0 k1
      cases rem with
      | nil =>
        have hq : q = none := hth.out
        subst hq
        obtain rfl : gk = 0 := hrl.symm
        obtain rfl : en = 0 := hen.out
        have HR0 := Lib.hid (show R = p.out by have h1 := hd.out; rw [List.drop_zero] at h1; rw [h1, ← HFl.out, hl.out, List.append_nil])
        rw [HR0.out] at HA
        have HCv : ∀ c, (convert 43 9 (.slice (some ⟨w.heap.size, 0, none⟩) N c)).run Tryd.prog wr = .ok (.string (txt p.out)) wr := fun c => by
          have := text_row wr w.heap.size c p.out HBy.out (fun j hj => by rw [cell_of_row wr w.heap.size j _ _ _ HA.out]; simp)
          rw [← HN.out] at this
          exact this
        clear hth hl hd hR HR0 hen
        go_wp2
        go_ret2
        exact ⟨HD.out _, HB.out⟩
      | cons b rem =>
        obtain ⟨qb, q2, rfl, hb0, hqb, cc0, cc1, hth2⟩ := hth.out
        obtain ⟨bl, hbl⟩ : ∃ bl, bl = b.length := ⟨_, rfl⟩
        have hen2 := hen.out
        rw [List.reverse_cons, List.flatten_append, List.length_append] at hen2
        simp only [List.flatten_cons, List.flatten_nil, List.append_nil, ← hbl] at hen2
        obtain ⟨e2, he2⟩ : ∃ e2, e2 = rem.reverse.flatten.length := ⟨_, rfl⟩
        rw [← he2] at hen2
        have hle' := hle.out
        have x0 : wr.cell? ⟨qb, 0, none⟩ = some (.pointer q2) := (HB.out.cell (p := ⟨qb, 0, none⟩) (cell_lt cc0)).trans cc0
        have x1 : wr.cell? ⟨qb, 1, none⟩ = some (.string (txt b)) := (HB.out.cell (p := ⟨qb, 1, none⟩) (cell_lt cc1)).trans cc1
        obtain ⟨S, hS⟩ : ∃ S, S = txt b := ⟨_, rfl⟩
        have hSs : S.size = bl := by rw [hS, txt_len, hbl]
        rw [← hS] at x1
        obtain ⟨C, hC⟩ : ∃ C, C = (natVals .u8 (R.take e2 ++ (nats S ++ R.drop (e2 + S.size)))).toArray := ⟨_, rfl⟩
        have hBn := below_setRow HB.out.drew (Nat.le_refl w.heap.size) C
        have y0 : (wr.drew.setRow w.heap.size C).cell? ⟨qb, 0, none⟩ = some (.pointer q2) := (hBn.cell (p := ⟨qb, 0, none⟩) (cell_lt cc0)).trans cc0
        have HBn := Lib.hid hBn
        have HS := Lib.hid hS
        have HC := Lib.hid hC
        have HSs := Lib.hid hSs
        have f1 : IntKind.i64.wrap ((en : Int) - (bl : Int)) = (e2 : Int) := by rw [IntKind.wrap_i64]; omega
        have f2 : (en : Int) - (bl : Int) = (e2 : Int) := by omega
        have f3 : wrap64 ((en : Int) - (bl : Int)) = (e2 : Int) := by unfold wrap64; omega
        have i1 : e2 ≤ N := by omega
        have i2 : (e2 : Int) ≤ (N : Int) := by omega
        have i3 : e2 < N := by omega
        have i5 : ¬ N = e2 := by omega
        have HE2 := Lib.hid he2
        have HBL := Lib.hid hbl
        have HEN := Lib.hid hen2
        rw [← hSs] at f1 f2 f3
        clear cc0 cc1 hth hen hen2 he2 hbl hS hC hBn hle' hSs hb0
        have HRC := Lib.hid (show Arr w.heap.size 5 .u8 (R.take e2 ++ (nats S ++ R.drop (e2 + S.size))) (wr.drew.setRow w.heap.size C) by rw [HC.out]; exact HA.out.drew.row _)
        go_wp2
        go_still_tail 7, (by kernel_rfl)
        change wpList _ _ _ _ _ wr.drew
        refine wpList_copy_text_at rfl (.tmp 54) (.tmp 58) 43 9 rfl 5 Tryd.underlying43 (by kernel_rfl) w.heap.size e2 (N - e2) (N - e2) S rfl rfl 5 R HA.out.drew (by have := hR.out; omega) (by have := HSs.out; have := HEN.out; have := hle.out; omega) C HC.out ?_
        go_wp2
        go_roundg rem.length
        case measure => simp at hrl; omega
        case rel =>
          refine ⟨rem, done ++ [b], e2, q2, _, rfl, by go_num, rfl, Lib.hid (by rw [hl.out, List.append_assoc]; rfl), HE2, Lib.hid hth2, HRC, Lib.hid ?_, Lib.hid ?_, Lib.hid (by omega), HBn⟩
          · have h1 := hR.out
            have h2 := HSs.out
            have h3 := HEN.out
            have h4 := hle.out
            rw [List.length_append, List.length_append, List.length_take, List.length_drop, nats_len]
            omega
          · have h1 := hR.out
            have h2 := HSs.out
            have h3 := HEN.out
            rw [List.drop_append, List.length_take, List.drop_eq_nil_of_le (by rw [List.length_take]; omega), List.nil_append, show e2 - min e2 R.length = 0 by omega, List.drop_zero, List.reverse_append, List.flatten_append, ← hd.out, h2, ← h3, HS.out]
            have hbb : nats (txt b) = b := nats_txt _ (fun x hx => HBy.out x (by
              rw [← HFl.out, hl.out]
              simp only [List.mem_flatten, List.mem_reverse]
              exact ⟨b, by simp, hx⟩))
            rw [hbb]
            simp
/-- A new Out has nothing. -/
theorem out_new (w : World) : OutAt (w.alloc (.cells #[.pointer none, .int .i64 0, .int .i64 0] 80)) w.heap.size ⟨[], none⟩ :=
  ⟨⟨[], none, rfl, rfl, by simp⟩, by simp, by simp [faultCode], by simp, by simp, by simp, (fun b hb => by cases hb), by simp, (fun c k h => by cases h)⟩
end Go.Proofs.YtajhegjemhegiaaDoor
namespace Go.Proofs.YtajhegjemhegiaaDoor
open Go.RowKit TextNat

/-- A write that lies in block B. -/
structure Fields (w : World) (B : Nat) (x : WriteV) : Prop where
  f0 : w.cell? ⟨B, 0, none⟩ = some (.int .i64 x.region)
  f1 : w.cell? ⟨B, 1, none⟩ = some (.int .i64 x.number)
  f2 : w.cell? ⟨B, 2, none⟩ = some (.int .i64 x.time)
  f4 : w.cell? ⟨B, 4, none⟩ = some (.slice x.dp x.dl.length x.dc)
  f5 : w.cell? ⟨B, 5, none⟩ = some (.string x.session)
  f6 : w.cell? ⟨B, 6, none⟩ = some (.string x.key)
  f7 : w.cell? ⟨B, 7, none⟩ = some (.string x.value)
  f8 : w.cell? ⟨B, 8, none⟩ = some (.bool x.gone)
  f9 : w.cell? ⟨B, 9, none⟩ = some (.int .i64 x.life)
theorem Fields.but {w w' : World} {B pb : Nat} {x : WriteV} (h : Fields w B x) (hb : But pb w w') (hn : B ≠ pb) : Fields w' B x :=
  have hl := cell_lt h.f0
  ⟨(hb.cell hl hn).trans h.f0, (hb.cell hl hn).trans h.f1, (hb.cell hl hn).trans h.f2, (hb.cell hl hn).trans h.f4, (hb.cell hl hn).trans h.f5, (hb.cell hl hn).trans h.f6, (hb.cell hl hn).trans h.f7, (hb.cell hl hn).trans h.f8, (hb.cell hl hn).trans h.f9⟩
structure WriteV.small (x : WriteV) : Prop where
  region : -9223372036854775808 ≤ x.region ∧ x.region ≤ 9223372036854775807
  number : -9223372036854775808 ≤ x.number ∧ x.number ≤ 9223372036854775807
  time : -9223372036854775808 ≤ x.time ∧ x.time ≤ 9223372036854775807
  life : -9223372036854775808 ≤ x.life ∧ x.life ≤ 9223372036854775807
  vec : x.dl.length ≤ 9223372036854775807

theorem Fields.below {w w' : World} {B C : Nat} {x : WriteV} (h : Fields w B x) (hb : Below C w w') (hn : B < C) : Fields w' B x :=
  ⟨(hb.cell (p := ⟨B, 0, none⟩) hn).trans h.f0, (hb.cell (p := ⟨B, 1, none⟩) hn).trans h.f1, (hb.cell (p := ⟨B, 2, none⟩) hn).trans h.f2, (hb.cell (p := ⟨B, 4, none⟩) hn).trans h.f4, (hb.cell (p := ⟨B, 5, none⟩) hn).trans h.f5, (hb.cell (p := ⟨B, 6, none⟩) hn).trans h.f6, (hb.cell (p := ⟨B, 7, none⟩) hn).trans h.f7, (hb.cell (p := ⟨B, 8, none⟩) hn).trans h.f8, (hb.cell (p := ⟨B, 9, none⟩) hn).trans h.f9⟩
/-- What is put of a write. -/
def putWrite (x : WriteV) : WireMath.Put :=
  WireMath.putN (WireMath.putN (WireMath.putN (WireMath.putN (WireMath.putN (putVec (WireMath.putN (WireMath.putN (WireMath.putN ⟨[], none⟩ [x.region] []) [x.number] []) [x.time] []) x.dl) [(x.session.size : Int)] (nats x.session)) [(x.key.size : Int)] (nats x.key)) [if x.gone then 1 else 0] []) [(x.value.size : Int)] (nats x.value)) [x.life] []

/-- A write in plain numbers. -/
def WriteV.t (x : WriteV) : WireMath.WriteT := (x.region.toNat, x.number.toNat, x.time.toNat, x.dl.map Int.toNat, nats x.session, nats x.key, x.gone, nats x.value, x.life.toNat)
theorem map_back {zs : List Int} (h : ∀ z ∈ zs, 0 ≤ z) : (zs.map Int.toNat).map Int.ofNat = zs := by
  rw [List.map_map]
  conv => rhs; rw [← List.map_id zs]
  refine List.map_congr_left fun z hz => ?_
  have := h z hz
  show Int.ofNat z.toNat = z
  exact Int.toNat_of_nonneg this
theorem trimmed_pos {zs : List Int} {m : Int} (h : WireMath.trimmed zs m = true) : ∀ z ∈ zs, 0 ≤ z := fun z hz => by
  rw [trimmed_whole] at h
  simp only [Bool.and_eq_true, List.all_eq_true] at h
  exact (inr_iff.1 (h.1.2 z hz)).1
theorem toList_nil {s : ByteArray} : s.toList.isEmpty = decide (s.size = 0) := by
  rw [ByteArray.toList_eq]
  have : s.data.toList.length = s.size := Array.length_toList
  cases h : s.data.toList with
  | nil => rw [h] at this; simp at this; simp [← this]
  | cons a r => rw [h] at this; simp at this; rw [decide_eq_false (by omega)]; rfl
structure RightIs (x : WriteV) : Prop where
  region : 1 ≤ x.region ∧ x.region ≤ 16
  number : 1 ≤ x.number ∧ x.number ≤ 1099511627776
  time : 1 ≤ x.time ∧ x.time ≤ 1099511627776
  sreg : x.sreg = x.region
  deps : WireMath.trimmed x.dl WireMath.big = true
  session : 1 ≤ x.session.size ∧ x.session.size ≤ 64
  key : x.key.size ≤ 32
  value : x.value.size ≤ 128
  gone : x.value.size = 0 ∨ x.gone = false
  life : 0 ≤ x.life ∧ x.life ≤ 1099511627776
theorem right_iff (x : WriteV) : x.right = true ↔ RightIs x := by
  unfold WriteV.right
  rw [toList_nil]
  simp only [Bool.and_eq_true, Bool.or_eq_true, inr_iff, decide_eq_true_eq, beq_iff_eq, Bool.not_eq_true']
  constructor
  · rintro ⟨h1, h2, h3, h4, h5, h6, h7, h8, h9, h10⟩
    exact ⟨h1, h2, h3, h4, h5, by omega, by omega, by omega, h9, h10⟩
  · rintro ⟨h1, h2, h3, h4, h5, h6, h7, h8, h9, h10⟩
    exact ⟨h1, h2, h3, h4, h5, by omega, by omega, by omega, h9, h10⟩
theorem right_t {x : WriteV} (h : RightIs x) : WireMath.rightWriteT x.t = true := by
  obtain ⟨h1, h2, h3, h4, h5, h6, h7, h8, h9, h10⟩ := h
  have hb := map_back (trimmed_pos h5)
  unfold WireMath.rightWriteT WriteV.t
  simp only [Bool.and_eq_true, Bool.or_eq_true, decide_eq_true_eq, Bool.not_eq_true', nats_len, hb]
  unfold WireMath.big at *
  refine ⟨⟨⟨⟨⟨⟨⟨⟨⟨⟨⟨⟨?_, ?_⟩, ?_⟩, ?_⟩, ?_⟩, ?_⟩, h5⟩, ?_⟩, ?_⟩, ?_⟩, ?_⟩, ?_⟩, ?_⟩ <;> first | exact h9 | omega
theorem right_put {x : WriteV} (h : RightIs x) : putWrite x = ⟨WireMath.writeBytesT x.t, none⟩ := by
  have ht := WireMath.write_small (right_t h)
  obtain ⟨h1, h2, h3, h4, h5, h6, h7, h8, h9, h10⟩ := h
  have hb := map_back (trimmed_pos h5)
  unfold WireMath.writeBytesT at ht ⊢
  simp only [List.length_append, WriteV.t] at ht
  have hw : whole_ x.dl = true := by rw [trimmed_whole] at h5; simp only [Bool.and_eq_true] at h5; exact h5.2
  have hl : x.dl.length ≤ 16 := by rw [trimmed_whole] at h5; simp only [Bool.and_eq_true, decide_eq_true_eq] at h5; exact h5.1.1
  unfold putWrite putVec
  rw [if_pos ⟨hl, hw⟩]
  have k1 := WireMath.putN_num (p := ⟨[], none⟩) (z := x.region) rfl (by omega) (by unfold WireMath.top; omega) (by simp only [List.length_nil]; omega)
  rw [k1]
  have k2 := WireMath.putN_num (p := ⟨([] ++ WireMath.num x.region.toNat), none⟩) (z := x.number) rfl (by omega) (by unfold WireMath.top; omega) (by simp only [List.length_append, List.length_nil]; omega)
  rw [k2]
  have k3 := WireMath.putN_num (p := ⟨(([] ++ WireMath.num x.region.toNat) ++ WireMath.num x.number.toNat), none⟩) (z := x.time) rfl (by omega) (by unfold WireMath.top; omega) (by simp only [List.length_append, List.length_nil]; omega)
  rw [k3]
  have k4 := WireMath.putN_vec (p := ⟨((([] ++ WireMath.num x.region.toNat) ++ WireMath.num x.number.toNat) ++ WireMath.num x.time.toNat), none⟩) (v := x.dl.map Int.toNat) rfl (by rw [hb]; exact h5) (by simp only [List.length_append, List.length_nil]; omega)
  rw [hb] at k4
  rw [k4]
  have k5 := WireMath.putN_text (p := ⟨(((([] ++ WireMath.num x.region.toNat) ++ WireMath.num x.number.toNat) ++ WireMath.num x.time.toNat) ++ WireMath.vecBytesN (x.dl.map Int.toNat)), none⟩) (s := nats x.session) rfl (by rw [nats_len]; omega) (by simp only [List.length_append, List.length_nil]; omega)
  rw [nats_len] at k5
  rw [k5]
  have k6 := WireMath.putN_text (p := ⟨((((([] ++ WireMath.num x.region.toNat) ++ WireMath.num x.number.toNat) ++ WireMath.num x.time.toNat) ++ WireMath.vecBytesN (x.dl.map Int.toNat)) ++ WireMath.textBytes (nats x.session)), none⟩) (s := nats x.key) rfl (by rw [nats_len]; omega) (by simp only [List.length_append, List.length_nil]; omega)
  rw [nats_len] at k6
  rw [k6]
  have k7 := WireMath.putN_flag (p := ⟨(((((([] ++ WireMath.num x.region.toNat) ++ WireMath.num x.number.toNat) ++ WireMath.num x.time.toNat) ++ WireMath.vecBytesN (x.dl.map Int.toNat)) ++ WireMath.textBytes (nats x.session)) ++ WireMath.textBytes (nats x.key)), none⟩) (b := x.gone) rfl (by simp only [List.length_append, List.length_nil]; omega)
  rw [k7]
  have k8 := WireMath.putN_text (p := ⟨((((((([] ++ WireMath.num x.region.toNat) ++ WireMath.num x.number.toNat) ++ WireMath.num x.time.toNat) ++ WireMath.vecBytesN (x.dl.map Int.toNat)) ++ WireMath.textBytes (nats x.session)) ++ WireMath.textBytes (nats x.key)) ++ WireMath.flagBytes x.gone), none⟩) (s := nats x.value) rfl (by rw [nats_len]; omega) (by simp only [List.length_append, List.length_nil]; omega)
  rw [nats_len] at k8
  rw [k8]
  have k9 := WireMath.putN_num (p := ⟨(((((((([] ++ WireMath.num x.region.toNat) ++ WireMath.num x.number.toNat) ++ WireMath.num x.time.toNat) ++ WireMath.vecBytesN (x.dl.map Int.toNat)) ++ WireMath.textBytes (nats x.session)) ++ WireMath.textBytes (nats x.key)) ++ WireMath.flagBytes x.gone) ++ WireMath.textBytes (nats x.value)), none⟩) (z := x.life) rfl (by omega) (by unfold WireMath.top; omega) (by simp only [List.length_append, List.length_nil]; omega)
  rw [k9]
  simp only [WriteV.t, List.nil_append, List.append_assoc]

/-- What EncodeWrite answers. -/
def EncIs (w : World) (x : WriteV) (e : Ending) : Prop :=
  if x.right then e = .returned (.tuple #[.string (txt (WireMath.writeBytesT x.t)), .nilIface])
  else ∃ r, e = .returned (.tuple #[.string ⟨#[]⟩, r]) ∧ Chain w.heap.size w [(⟨#[119, 105, 114, 101]⟩, (0 : Int))] (.iface 40 (.int .i64 (1 : Int))) r
end Go.Proofs.YtajhegjemhegiaaDoor
