/-
  The contract of the program's Done of an Out of chapter 5: all bytes, or the first fault with its place. No conditions but that the Out holds what it is said to.
-/
import Derived.Test.YtpmhfoleafjlbaaDoorWireOuts
import Derived.Test.YtpmhfoleafjlbaaDoorFailAt
import Derived.Deep.OwnRows
namespace Go.Proofs.YtpmhfoleafjlbaaDoor
open Go.RowKit TextNat

/-- copy of a text into the midst of a row of one's own. -/
theorem run_copy_text_at {P : Program} (w : World) (dT sT ty elem : TypeId) (g o dLen dCap : Nat) (s : ByteArray) (l : List Nat) (t : TypeId)
    (hu : P.underlying dT = some (.slice elem)) (hs : (P.info? elem).map (·.size) = some 1) (hg : Arr g t .u8 l w) (hl : o + dLen ≤ l.length) (hsl : s.size ≤ dLen) :
    (Builtin.copy_ #[dT, sT] ty #[.slice (some ⟨g, o, none⟩) dLen dCap, .string s]).run P w =
      .ok (.int .i64 (s.size : Int)) (w.setRow g (natVals .u8 (l.take o ++ (nats s ++ l.drop (o + s.size)))).toArray) := by
  have e : List.map (fun b : UInt8 => Value.int IntKind.u8 (b.toNat : Int)) s.data.toList = natVals .u8 (nats s) := by simp [natVals, nats, Function.comp_def]
  have hv : List.take (Nat.min s.size dLen) (List.map (fun b : UInt8 => Value.int IntKind.u8 (b.toNat : Int)) s.data.toList) = natVals .u8 (nats s) := by
    rw [e, show Nat.min s.size dLen = s.size from Nat.min_eq_left hsl, List.take_of_length_le (by rw [natVals_len, nats_len]; omega)]
  have hst := run_storeCells_at (P := P) g o t (natVals .u8 (nats s)) 0 _ w hg (by simp only [List.size_toArray, natVals_len, nats_len]; omega) (fun v hv => by
    obtain ⟨z, _, rfl⟩ := List.mem_map.1 hv
    rfl)
  rw [natVals_len, nats_len] at hst
  simp only [Nat.add_zero] at hst
  have hdd : (natVals .u8 l).take o ++ natVals .u8 (nats s) ++ (natVals .u8 l).drop (o + s.size) = natVals .u8 (l.take o ++ (nats s ++ l.drop (o + s.size))) := by
    rw [natVals_append, natVals_append, List.append_assoc]
    simp [natVals, List.map_take, List.map_drop]
  rw [hdd] at hst
  cases hq : P.info? elem with
  | none => simp [hq] at hs
  | some i =>
    have h1 : i.size = 1 := by simpa [hq] using hs
    simp [Builtin.copy_, run_underlying hu, Builtin.lenOf, Builtin.firstCells, sizeOf, typeInfo, hq]
    rw [hv, hst]
    simp [Result.andThen, goInt]
    exact congrArg Nat.cast (Nat.min_eq_left hsl)
theorem wpList_copy_text_at {P : Program} {w : World} {ops : Array Oper} {rest : List Oper} {o : Oper} {a : Act} {Q : Exit → Act → World → Prop} (hgd : o.guard = none) (d x : Operand) (dT sT : TypeId)
    (ho : o.op = .call { callee := .builtin .copy, args := #[d, x], argTypes := #[dT, sT] }) (elem : TypeId) (hu : P.underlying dT = some (.slice elem)) (hsz : (P.info? elem).map (·.size) = some 1)
    (g off dLen dCap : Nat) (s : ByteArray) (hd : a.eval d = .slice (some ⟨g, off, none⟩) dLen dCap) (hx : a.eval x = .string s) (t : TypeId) (l : List Nat) (hg : Arr g t .u8 l w) (hl : off + dLen ≤ l.length) (hsl : s.size ≤ dLen)
    (C : Array Value) (hC : C = (natVals .u8 (l.take off ++ (nats s ++ l.drop (off + s.size)))).toArray)
    (h : wpList P ops Q rest (a.put o.dst (.int .i64 (s.size : Int))) (w.setRow g C)) : wpList P ops Q (o :: rest) a w := by
  refine wpList_plain hgd fun K hK => ?_
  have hrun := run_copy_text_at (P := P) w dT sT o.type elem g off dLen dCap s l t hu hsz hg hl hsl
  unfold Oper.wp
  simp [execOp, ho, resolve, invoke, builtin, hd, hx, hrun, Result.andThen]
  exact hK _ _ (hC ▸ h)
theorem made_zeros (n : Nat) : madeCells #[Value.int .u8 0] n = (natVals .u8 (List.replicate n 0)).toArray := by
  apply Array.toList_inj.1
  rw [toList_madeCells_one]
  simp [natVals]
theorem below_setRow {B g : Nat} {w w' : World} (h : Below B w w') (hg : B ≤ g) (C : Array Value) : Below B w (w'.setRow g C) :=
  ⟨h.os, h.tape, h.output, by simpa using h.size, fun k hk => (setRow_other w' g k C (by omega)).trans (h.block k hk)⟩

/-- What Done answers: all bytes, or the first fault. -/
def DoneIs (w : World) (p : WireMath.Put) (e : Ending) : Prop :=
  match p.bad with
  | none => e = .returned (.tuple #[.string (txt p.out), .nilIface])
  | some (c, k) => ∃ r, e = .returned (.tuple #[.string ⟨#[]⟩, r]) ∧ Chain w.heap.size w [(⟨#[119, 105, 114, 101]⟩, (k : Int))] (.iface 40 (.int .i64 (c : Int))) r

set_option maxRecDepth 100000 in
set_option maxHeartbeats 4000000 in
theorem done_ok (pb : Nat) (p : WireMath.Put) (w : World) (h : OutAt w pb p) :
    Calls Tryd.prog 8 #[.pointer (some ⟨pb, 0, none⟩)] w fun e w' => DoneIs w' p e ∧ Below w.heap.size w w' := by
  have c1 := h.size
  have c2 := h.fault
  have HO := Lib.hid h
  cases hb : p.bad with
  | some q =>
    obtain ⟨d, k⟩ := q
    rw [hb] at c2
    have c2' : w.cell? ⟨pb, 2, none⟩ = some (.int .i64 (d : Int)) := c2
    obtain ⟨hk, hd⟩ := h.bad d k hb
    rw [← hk] at c1
    have t1 : ((d : Int) == 0) = false := by rw [beq_eq_false_iff_ne]; omega
    have t1' : (d == 0) = false := by rw [beq_eq_false_iff_ne]; omega
    have HA := Lib.hid (fun w1 => at_chain ⟨#[119, 105, 114, 101]⟩ (k : Int) [] (d : Int) (.iface 40 (.int .i64 (d : Int))) w1 rfl)
    have HD := Lib.hid (show ∀ w' r, Chain w'.heap.size w' [(⟨#[119, 105, 114, 101]⟩, (k : Int))] (.iface 40 (.int .i64 (d : Int))) r → DoneIs w' p (.returned (.tuple #[.string ⟨#[]⟩, r])) from fun w' r hr => by unfold DoneIs; rw [hb]; exact ⟨r, rfl, hr⟩)
    clear h c2 hb hk hd
    go_enter Tryd.func8, Tryd.ntmps8
    go_wp2
    go_still_tail 9, (by kernel_rfl)
    change wpList _ _ _ _ _ w.drew
    go_wp2_with (go_at_call 30; refine (HA.out _).mono ?_; rintro e w2 ⟨r, rfl, hc, hb⟩)
    go_ret2
    exact ⟨HD.out _ _ hc, Below.trans (Below.refl _ _).drew hb⟩
  | none =>
    rw [hb] at c2
    have c2' : w.cell? ⟨pb, 2, none⟩ = some (.int .i64 0) := c2
    obtain ⟨N, hN⟩ : ∃ N, N = p.out.length := ⟨_, rfl⟩
    have hN16 : N ≤ 65536 := by rw [hN]; exact h.long
    rw [← hN] at c1
    obtain ⟨l, a, ht, hfl, c0⟩ := h.last
    have hmk := run_make_row' (P := Tryd.prog) 67 5 (.int .u8 0) 1 Tryd.underlying67 info_byte rfl .i64 .i64 N (by omega) (by omega)
    have hW1 : ∀ o, Below w.heap.size w (w.alloc o) := fun o => (Below.refl _ _).alloc (Nat.le_refl _) o
    have k0 : ∀ o, (w.alloc o).cell? ⟨pb, 0, none⟩ = some (.pointer a) := fun o => ((hW1 o).cell (p := ⟨pb, 0, none⟩) h.lt).trans c0
    have k1 : ∀ o, (w.alloc o).cell? ⟨pb, 1, none⟩ = some (.int .i64 (N : Int)) := fun o => ((hW1 o).cell (p := ⟨pb, 1, none⟩) h.lt).trans c1
    have hA0 : Arr w.heap.size 5 .u8 (List.replicate N 0) (w.alloc (.cells (madeCells #[.int .u8 0] N) 5)) := by rw [made_zeros]; exact Arr.new _ _ _ _
    have HA0 := Lib.hid hA0
    have HB0 := Lib.hid (hW1 (.cells (madeCells #[.int .u8 0] N) 5))
    have HN := Lib.hid hN
    have HTh := Lib.hid ht
    have HFl := Lib.hid hfl
    have HBy := Lib.hid h.bytes
    have hlen : l.reverse.flatten.length = N := by rw [hfl, hN]
    have HL := Lib.hid hlen
    have HD := Lib.hid (show ∀ w', DoneIs w' p (.returned (.tuple #[.string (txt p.out), .nilIface])) from fun w' => by unfold DoneIs; rw [hb])
    clear h c2 hb hN ht hfl hA0 hW1 hlen
    go_enter Tryd.func8, Tryd.ntmps8
    go_wp2
    go_loopg [5, 6] l.length (fun gh s5 s6 wx => ∃ (rem done : List (List Nat)) (en : Nat) (q : Option Addr) (R : List Nat), rem.length = gh ∧ s5 = .int .i64 (en : Int) ∧ s6 = .pointer q ∧ Hid (l = done ++ rem) ∧ Hid (en = rem.reverse.flatten.length) ∧ Hid (Things pb w rem q) ∧ Hid (Arr w.heap.size 5 .u8 R wx) ∧ Hid (R.length = N) ∧ Hid (R.drop en = done.reverse.flatten) ∧ Hid (en ≤ N) ∧ Hid (Below w.heap.size w wx))
    case atStart => exact ⟨l, [], N, a, List.replicate N 0, rfl, by go_num, rfl, Lib.hid rfl, Lib.hid HL.out.symm, HTh, HA0, Lib.hid List.length_replicate, Lib.hid (by simp), Lib.hid (Nat.le_refl _), HB0⟩
    case round =>
      obtain ⟨rem, done, en, q, R, hrl, rfl, rfl, hl, hen, hth, HA, hR, hd, hle, HB⟩ := hrel
      clear HA0 HB0 k0 k1
      cases rem with
      | nil =>
        have hq : q = none := hth.out
        subst hq
        obtain rfl : gk = 0 := hrl.symm
        obtain rfl : en = 0 := hen.out
        have HR0 := Lib.hid (show R = p.out by have h1 := hd.out; rw [List.drop_zero] at h1; rw [h1, ← HFl.out, hl.out, List.append_nil])
        rw [HR0.out] at HA
        have HCv : ∀ c, (convert 67 9 (.slice (some ⟨w.heap.size, 0, none⟩) N c)).run Tryd.prog wr = .ok (.string (txt p.out)) wr := fun c => by
          have := text_row wr w.heap.size c p.out HBy.out (fun j hj => by rw [cell_of_row wr w.heap.size j _ _ _ HA.out]; simp)
          rw [← HN.out] at this
          exact this
        clear hth hl hd hR HR0 hen
        go_wp2
        go_ret2
        exact ⟨HD.out _, HB.out⟩
      | cons b rem =>
        obtain ⟨qb, q2, rfl, hb0, hqb, cc0, cc1, hth2⟩ := hth.out
        obtain ⟨bl, hbl⟩ : ∃ bl, bl = b.length := ⟨_, rfl⟩
        have hen2 := hen.out
        rw [List.reverse_cons, List.flatten_append, List.length_append] at hen2
        simp only [List.flatten_cons, List.flatten_nil, List.append_nil, ← hbl] at hen2
        obtain ⟨e2, he2⟩ : ∃ e2, e2 = rem.reverse.flatten.length := ⟨_, rfl⟩
        rw [← he2] at hen2
        have hle' := hle.out
        have x0 : wr.cell? ⟨qb, 0, none⟩ = some (.pointer q2) := (HB.out.cell (p := ⟨qb, 0, none⟩) (cell_lt cc0)).trans cc0
        have x1 : wr.cell? ⟨qb, 1, none⟩ = some (.string (txt b)) := (HB.out.cell (p := ⟨qb, 1, none⟩) (cell_lt cc1)).trans cc1
        obtain ⟨S, hS⟩ : ∃ S, S = txt b := ⟨_, rfl⟩
        have hSs : S.size = bl := by rw [hS, txt_len, hbl]
        rw [← hS] at x1
        obtain ⟨C, hC⟩ : ∃ C, C = (natVals .u8 (R.take e2 ++ (nats S ++ R.drop (e2 + S.size)))).toArray := ⟨_, rfl⟩
        have hBn := below_setRow HB.out.drew (Nat.le_refl w.heap.size) C
        have y0 : (wr.drew.setRow w.heap.size C).cell? ⟨qb, 0, none⟩ = some (.pointer q2) := (hBn.cell (p := ⟨qb, 0, none⟩) (cell_lt cc0)).trans cc0
        have HBn := Lib.hid hBn
        have HS := Lib.hid hS
        have HC := Lib.hid hC
        have HSs := Lib.hid hSs
        have f1 : IntKind.i64.wrap ((en : Int) - (bl : Int)) = (e2 : Int) := by rw [IntKind.wrap_i64]; omega
        have f2 : (en : Int) - (bl : Int) = (e2 : Int) := by omega
        have f3 : wrap64 ((en : Int) - (bl : Int)) = (e2 : Int) := by unfold wrap64; omega
        have i1 : e2 ≤ N := by omega
        have i2 : (e2 : Int) ≤ (N : Int) := by omega
        have i3 : e2 < N := by omega
        have i5 : ¬ N = e2 := by omega
        have HE2 := Lib.hid he2
        have HBL := Lib.hid hbl
        have HEN := Lib.hid hen2
        rw [← hSs] at f1 f2 f3
        clear cc0 cc1 hth hen hen2 he2 hbl hS hC hBn hle' hSs hb0
        have HRC := Lib.hid (show Arr w.heap.size 5 .u8 (R.take e2 ++ (nats S ++ R.drop (e2 + S.size))) (wr.drew.setRow w.heap.size C) by rw [HC.out]; exact HA.out.drew.row _)
        go_wp2
        go_still_tail 7, (by kernel_rfl)
        change wpList _ _ _ _ _ wr.drew
        refine wpList_copy_text_at rfl (.tmp 54) (.tmp 58) 67 9 rfl 5 Tryd.underlying67 (by kernel_rfl) w.heap.size e2 (N - e2) (N - e2) S rfl rfl 5 R HA.out.drew (by have := hR.out; omega) (by have := HSs.out; have := HEN.out; have := hle.out; omega) C HC.out ?_
        go_wp2
        go_roundg rem.length
        case measure => simp at hrl; omega
        case rel =>
          refine ⟨rem, done ++ [b], e2, q2, _, rfl, by go_num, rfl, Lib.hid (by rw [hl.out, List.append_assoc]; rfl), HE2, Lib.hid hth2, HRC, Lib.hid ?_, Lib.hid ?_, Lib.hid (by omega), HBn⟩
          · have h1 := hR.out
            have h2 := HSs.out
            have h3 := HEN.out
            have h4 := hle.out
            rw [List.length_append, List.length_append, List.length_take, List.length_drop, nats_len]
            omega
          · have h1 := hR.out
            have h2 := HSs.out
            have h3 := HEN.out
            rw [List.drop_append, List.length_take, List.drop_eq_nil_of_le (by rw [List.length_take]; omega), List.nil_append, show e2 - min e2 R.length = 0 by omega, List.drop_zero, List.reverse_append, List.flatten_append, ← hd.out, h2, ← h3, HS.out]
            have hbb : nats (txt b) = b := nats_txt _ (fun x hx => HBy.out x (by
              rw [← HFl.out, hl.out]
              simp only [List.mem_flatten, List.mem_reverse]
              exact ⟨b, by simp, hx⟩))
            rw [hbb]
            simp
/-- A new Out has nothing. -/
theorem out_new (w : World) : OutAt (w.alloc (.cells #[.pointer none, .int .i64 0, .int .i64 0] 63)) w.heap.size ⟨[], none⟩ :=
  ⟨⟨[], none, rfl, rfl, by simp⟩, by simp, by simp [faultCode], by simp, by simp, by simp, (fun b hb => by cases hb), by simp, (fun c k h => by cases h)⟩
end Go.Proofs.YtpmhfoleafjlbaaDoor
