/-
  Texts of one claim, merged.
  WireEncC: The contract of the program's EncodeClaims of chapter 5: right claims' bytes, or an error. The conditions: the vector's cells; the numbers are Go's.
  Lies: A row of cells that lies in a block: what its cells are, and that it stays. No program is run here.
  Results: Results that lie in blocks of their own: a struct (or an array) first, a plain value behind it. For any program; no conditions but those typed.
-/
import Derived.Test.YtajhegjemhegiaaDoorPart15
import Derived.Test.YtajhegjemhegiaaDoorPart17
import Derived.Test.YtajhegjemhegiaaDoorPart05
import Derived.WalkKit
import Derived.Handy
namespace Go.Proofs.YtajhegjemhegiaaDoor
open Go.RowKit TextNat

/-- Claims that lie in block B. -/
structure FieldsC (w : World) (B : Nat) (x : ClaimsV) : Prop where
  f0 : w.cell? ⟨B, 0, none⟩ = some (.string x.session)
  f1 : w.cell? ⟨B, 1, none⟩ = some (.string x.user)
  f2 : w.cell? ⟨B, 2, none⟩ = some (.int .i64 x.epoch)
  f3 : w.cell? ⟨B, 3, none⟩ = some (.int .i64 x.issue)
  f4 : w.cell? ⟨B, 4, none⟩ = some (.int .i64 x.key)
  f5 : w.cell? ⟨B, 5, none⟩ = some (.slice x.cp x.cl.length x.cc)
theorem FieldsC.below {w w' : World} {B C : Nat} {x : ClaimsV} (h : FieldsC w B x) (hb : Below C w w') (hn : B < C) : FieldsC w' B x :=
  ⟨(hb.cell (p := ⟨B, 0, none⟩) hn).trans h.f0, (hb.cell (p := ⟨B, 1, none⟩) hn).trans h.f1, (hb.cell (p := ⟨B, 2, none⟩) hn).trans h.f2, (hb.cell (p := ⟨B, 3, none⟩) hn).trans h.f3, (hb.cell (p := ⟨B, 4, none⟩) hn).trans h.f4, (hb.cell (p := ⟨B, 5, none⟩) hn).trans h.f5⟩
structure ClaimsV.small (x : ClaimsV) : Prop where
  epoch : -9223372036854775808 ≤ x.epoch ∧ x.epoch ≤ 9223372036854775807
  issue : -9223372036854775808 ≤ x.issue ∧ x.issue ≤ 9223372036854775807
  key : -9223372036854775808 ≤ x.key ∧ x.key ≤ 9223372036854775807
  vec : x.cl.length ≤ 9223372036854775807
/-- What is put of claims. -/
def putClaims (x : ClaimsV) : WireMath.Put :=
  putVec (WireMath.putN (WireMath.putN (WireMath.putN (WireMath.putN (WireMath.putN ⟨[], none⟩ [(x.session.size : Int)] (nats x.session)) [(x.user.size : Int)] (nats x.user)) [x.epoch] []) [x.issue] []) [x.key] []) x.cl

set_option maxRecDepth 100000 in
set_option maxHeartbeats 4000000 in
theorem encClaims_walk (x : ClaimsV) (w : World) (hz : Ints w x.cp x.cl) (hs : x.small) (h1 : x.session.size ≤ 200000) (h2 : x.user.size ≤ 200000) (hx : x.right = true) (bs : List Nat) (hp : putClaims x = ⟨bs, none⟩) :
    Calls Tryd.prog 25 #[x.val] w fun e w' => e = .returned (.tuple #[.string (txt bs), .nilIface]) ∧ Below w.heap.size w w' := by
  have HP := Lib.hid hp
  clear hp
  obtain ⟨B, hB⟩ : ∃ B, B = w.heap.size := ⟨_, rfl⟩
  obtain ⟨session, user, epoch, issue, key, cp, cl, cc⟩ := x
  obtain ⟨W, hW⟩ : ∃ W, W = w.alloc (.cells #[.string session, .string user, .int .i64 epoch, .int .i64 issue, .int .i64 key, .slice cp cl.length cc] 31) := ⟨_, rfl⟩
  have hBW : Below w.heap.size w W := by rw [hW]; exact (Below.refl _ _).alloc (Nat.le_refl _) _
  have hF : FieldsC W B ⟨session, user, epoch, issue, key, cp, cl, cc⟩ := by
    rw [hW, hB]
    exact ⟨by simp, by simp, by simp, by simp, by simp, by simp⟩
  have hR := rightClaims_ok ⟨session, user, epoch, issue, key, cp, cl, cc⟩ W (hz.grown hBW) hs.vec
  rw [hx] at hR
  have hBlt : B < W.heap.size := by rw [hW, hB]; simp
  obtain ⟨r1, r2, r3, hvl⟩ := hs
  have HI := Lib.hid (hz.grown hBW)
  have HF := Lib.hid hF
  have HR := Lib.hid hR
  have HW := Lib.hid hW
  have HB := Lib.hid hBW
  have HBB := Lib.hid hB
  simp only [ClaimsV.val] at *
  clear hz hx hBW hF hR hW hB
  go_enter Tryd.func25, Tryd.ntmps25
  go_wp2_with fail
  rw [← HW.out]
  refine HR.out.mono ?_
  rintro e w3 ⟨rfl, hb⟩
  have HF3 := Lib.hid (HF.out.below hb hBlt)
  have HB3 := Lib.hid (HB.out.trans (hb.mono HB.out.size))
  have HI3 := Lib.hid (HI.out.grown hb)
  have HL3 := Lib.hid (Nat.lt_of_lt_of_le hBlt hb.size)
  have HO := Lib.hid (out_new w3)
  have HK : Hid (Below w3.heap.size w3 (w3.alloc (.cells #[.pointer none, .int .i64 0, .int .i64 0] 80))) := Lib.hid ((Below.refl _ _).alloc (Nat.le_refl _) _)
  clear hb HF HB HI hBlt
  simp only [HBB.out] at *
  have f0 := (HF3.out.below HK.out HL3.out).f0
  have f1 := (HF3.out.below HK.out HL3.out).f1
  have f2 := (HF3.out.below HK.out HL3.out).f2
  have f3 := (HF3.out.below HK.out HL3.out).f3
  have f4 := (HF3.out.below HK.out HL3.out).f4
  have f5 := (HF3.out.below HK.out HL3.out).f5
  go_wp2_with (first
    | (go_at_call 43; refine (num_ok _ _ _ _ HO.out (by first | exact r1 | exact r2 | exact r3)).mono ?_; rintro e wk ⟨rfl, ho, hb⟩; replace HO := Lib.hid ho; replace HK := Lib.hid (HK.out.trans (hb.below HK.out.size)); clear ho hb f0 f1 f2 f3 f4 f5; have f0 := (HF3.out.below HK.out HL3.out).f0; have f1 := (HF3.out.below HK.out HL3.out).f1; have f2 := (HF3.out.below HK.out HL3.out).f2; have f3 := (HF3.out.below HK.out HL3.out).f3; have f4 := (HF3.out.below HK.out HL3.out).f4; have f5 := (HF3.out.below HK.out HL3.out).f5)
    | (go_at_call 42; refine (text_ok _ _ _ _ HO.out (by first | exact h1 | exact h2)).mono ?_; rintro e wk ⟨rfl, ho, hb⟩; replace HO := Lib.hid ho; replace HK := Lib.hid (HK.out.trans (hb.below HK.out.size)); clear ho hb f0 f1 f2 f3 f4 f5; have f0 := (HF3.out.below HK.out HL3.out).f0; have f1 := (HF3.out.below HK.out HL3.out).f1; have f2 := (HF3.out.below HK.out HL3.out).f2; have f3 := (HF3.out.below HK.out HL3.out).f3; have f4 := (HF3.out.below HK.out HL3.out).f4; have f5 := (HF3.out.below HK.out HL3.out).f5)
    | (go_at_call 44; refine (vec_ok _ _ _ _ _ _ HO.out (HI3.out.grown HK.out) hvl).mono ?_; rintro e wk ⟨rfl, ho, hb⟩; replace HO := Lib.hid ho; replace HK := Lib.hid (HK.out.trans (hb.below HK.out.size)); clear ho hb f0 f1 f2 f3 f4 f5; have f0 := (HF3.out.below HK.out HL3.out).f0; have f1 := (HF3.out.below HK.out HL3.out).f1; have f2 := (HF3.out.below HK.out HL3.out).f2; have f3 := (HF3.out.below HK.out HL3.out).f3; have f4 := (HF3.out.below HK.out HL3.out).f4; have f5 := (HF3.out.below HK.out HL3.out).f5)
    | (go_at_call 45; refine (done_ok _ _ _ HO.out).mono ?_; rintro e wk ⟨hd, hb⟩; have hd' : DoneIs wk ⟨bs, none⟩ e := (by rw [← HP.out]; exact hd); obtain rfl : e = .returned (.tuple #[.string (txt bs), .nilIface]) := hd'; replace HK := Lib.hid (HK.out.trans (hb.mono HK.out.size)); clear hd hb))
  go_ret2
  exact ⟨rfl, HB3.out.trans (HK.out.mono HB3.out.size)⟩

/-- Claims in plain numbers. -/
def ClaimsV.t (x : ClaimsV) : WireMath.ClaimsT := (nats x.session, nats x.user, x.epoch.toNat, x.issue.toNat, x.key.toNat, x.cl.map Int.toNat)
structure RightIsC (x : ClaimsV) : Prop where
  session : 1 ≤ x.session.size ∧ x.session.size ≤ 64
  user : 1 ≤ x.user.size ∧ x.user.size ≤ 32
  epoch : 0 ≤ x.epoch ∧ x.epoch ≤ 1099511627776
  issue : 0 ≤ x.issue ∧ x.issue ≤ 1099511627776
  key : 0 ≤ x.key ∧ x.key ≤ 1099511627776
  ctx : WireMath.trimmed x.cl WireMath.big = true
theorem rightC_iff (x : ClaimsV) : x.right = true ↔ RightIsC x := by
  unfold ClaimsV.right
  simp only [Bool.and_eq_true, inr_iff]
  constructor
  · rintro ⟨h1, h2, h3, h4, h5, h6⟩
    exact ⟨by omega, by omega, h3, h4, h5, h6⟩
  · rintro ⟨h1, h2, h3, h4, h5, h6⟩
    exact ⟨by omega, by omega, h3, h4, h5, h6⟩
theorem rightC_t {x : ClaimsV} (h : RightIsC x) : WireMath.rightClaimsT x.t = true := by
  obtain ⟨h1, h2, h3, h4, h5, h6⟩ := h
  have hb := map_back (trimmed_pos h6)
  unfold WireMath.rightClaimsT ClaimsV.t
  simp only [Bool.and_eq_true, decide_eq_true_eq, nats_len, hb]
  unfold WireMath.big at *
  refine ⟨⟨⟨⟨⟨⟨⟨?_, ?_⟩, ?_⟩, ?_⟩, ?_⟩, ?_⟩, ?_⟩, h6⟩ <;> omega
theorem rightC_put {x : ClaimsV} (h : RightIsC x) : putClaims x = ⟨WireMath.claimsBytesT x.t, none⟩ := by
  have ht := WireMath.claims_small (rightC_t h)
  obtain ⟨h1, h2, h3, h4, h5, h6⟩ := h
  have hb := map_back (trimmed_pos h6)
  unfold WireMath.claimsBytesT at ht ⊢
  simp only [List.length_append, ClaimsV.t] at ht
  have hw : whole_ x.cl = true := by rw [trimmed_whole] at h6; simp only [Bool.and_eq_true] at h6; exact h6.2
  have hl : x.cl.length ≤ 16 := by rw [trimmed_whole] at h6; simp only [Bool.and_eq_true, decide_eq_true_eq] at h6; exact h6.1.1
  unfold putClaims putVec
  rw [if_pos ⟨hl, hw⟩]
  have k1 := WireMath.putN_text (p := ⟨[], none⟩) (s := nats x.session) rfl (by rw [nats_len]; omega) (by simp only [List.length_nil]; omega)
  rw [nats_len] at k1
  rw [k1]
  have k2 := WireMath.putN_text (p := ⟨([] ++ WireMath.textBytes (nats x.session)), none⟩) (s := nats x.user) rfl (by rw [nats_len]; omega) (by simp only [List.length_append, List.length_nil]; omega)
  rw [nats_len] at k2
  rw [k2]
  have k3 := WireMath.putN_num (p := ⟨(([] ++ WireMath.textBytes (nats x.session)) ++ WireMath.textBytes (nats x.user)), none⟩) (z := x.epoch) rfl (by omega) (by unfold WireMath.top; omega) (by simp only [List.length_append, List.length_nil]; omega)
  rw [k3]
  have k4 := WireMath.putN_num (p := ⟨((([] ++ WireMath.textBytes (nats x.session)) ++ WireMath.textBytes (nats x.user)) ++ WireMath.num x.epoch.toNat), none⟩) (z := x.issue) rfl (by omega) (by unfold WireMath.top; omega) (by simp only [List.length_append, List.length_nil]; omega)
  rw [k4]
  have k5 := WireMath.putN_num (p := ⟨(((([] ++ WireMath.textBytes (nats x.session)) ++ WireMath.textBytes (nats x.user)) ++ WireMath.num x.epoch.toNat) ++ WireMath.num x.issue.toNat), none⟩) (z := x.key) rfl (by omega) (by unfold WireMath.top; omega) (by simp only [List.length_append, List.length_nil]; omega)
  rw [k5]
  have k6 := WireMath.putN_vec (p := ⟨((((([] ++ WireMath.textBytes (nats x.session)) ++ WireMath.textBytes (nats x.user)) ++ WireMath.num x.epoch.toNat) ++ WireMath.num x.issue.toNat) ++ WireMath.num x.key.toNat), none⟩) (v := x.cl.map Int.toNat) rfl (by rw [hb]; exact h6) (by simp only [List.length_append, List.length_nil]; omega)
  rw [hb] at k6
  rw [k6]
  simp only [ClaimsV.t, List.nil_append, List.append_assoc]

/-- What EncodeClaims answers. -/
def EncIsC (w : World) (x : ClaimsV) (e : Ending) : Prop :=
  if x.right then e = .returned (.tuple #[.string (txt (WireMath.claimsBytesT x.t)), .nilIface])
  else ∃ r, e = .returned (.tuple #[.string ⟨#[]⟩, r]) ∧ Chain w.heap.size w [(⟨#[119, 105, 114, 101]⟩, (0 : Int))] (.iface 40 (.int .i64 (1 : Int))) r
set_option maxRecDepth 100000 in
set_option maxHeartbeats 4000000 in
theorem encClaims_ok (x : ClaimsV) (w : World) (hz : Ints w x.cp x.cl) (hs : x.small) :
    Calls Tryd.prog 25 #[x.val] w fun e w' => EncIsC w' x e ∧ Below w.heap.size w w' := by
  cases hx : x.right with
  | true =>
    have h := (rightC_iff x).1 hx
    refine (encClaims_walk x w hz hs (by have := h.session; omega) (by have := h.user; omega) hx _ (rightC_put h)).mono ?_
    rintro e w' ⟨rfl, hb⟩
    exact ⟨by unfold EncIsC; rw [hx]; rfl, hb⟩
  | false =>
    have HD := Lib.hid (show ∀ w' r, Chain w'.heap.size w' [(⟨#[119, 105, 114, 101]⟩, (0 : Int))] (.iface 40 (.int .i64 (1 : Int))) r → EncIsC w' x (.returned (.tuple #[.string ⟨#[]⟩, r])) from fun w' r hr => by unfold EncIsC; rw [hx]; exact ⟨r, rfl, hr⟩)
    have HA := Lib.hid (fun w1 => at_chain ⟨#[119, 105, 114, 101]⟩ (0 : Int) [] (1 : Int) (.iface 40 (.int .i64 (1 : Int))) w1 rfl)
    have hR := fun w1 (h : Below w.heap.size w w1) => rightClaims_ok x w1 (hz.grown h) hs.vec
    simp only [hx] at hR
    have HR := Lib.hid hR
    clear hR hz hs
    obtain ⟨session, user, epoch, issue, key, cp, cl, cc⟩ := x
    simp only [ClaimsV.val] at *
    clear hx
    go_enter Tryd.func25, Tryd.ntmps25
    go_wp2_with (first
      | (go_at_call 41; refine (HR.out _ ((Below.refl _ _).alloc (Nat.le_refl _) _)).mono ?_; rintro e w3 ⟨rfl, hb⟩; have HB := Lib.hid (((Below.refl w.heap.size w).alloc (Nat.le_refl _) _).trans (hb.mono (by simp))); clear hb)
      | (go_at_call 17; refine (HA.out _).mono ?_; rintro e w4 ⟨r, rfl, hc, hb⟩))
    go_ret2
    exact ⟨HD.out _ _ hc, HB.out.trans (hb.mono HB.out.size)⟩
end Go.Proofs.YtajhegjemhegiaaDoor
namespace Go.Proofs.YtajhegjemhegiaaDoor
open Go.RowKit

/-- A row of cells that lies in block b. -/
def Lies (w : World) (b : Nat) (l : List Value) (T : TypeId) : Prop := w.heap[b]? = some (.cells l.toArray T (0, 0))
theorem Lies.lt {w : World} {b : Nat} {l : List Value} {T : TypeId} (h : Lies w b l T) : b < w.heap.size := (Array.getElem?_eq_some_iff.1 h).1
theorem Lies.cell {w : World} {b i : Nat} {l : List Value} {T : TypeId} {v : Value} (h : Lies w b l T) (hv : l[i]? = some v) : w.cell? ⟨b, i, none⟩ = some v := by
  rw [cell_of_row w b i _ T (0, 0) h]
  simp [hv]
theorem Lies.free {w : World} {b : Nat} {l : List Value} {T : TypeId} (h : Lies w b l T) (i : Nat) : w.frozen? ⟨b, i, none⟩ = false := frozen_of_row w b i _ T h
theorem Lies.set {w : World} {b : Nat} {l : List Value} {T : TypeId} (h : Lies w b l T) (i : Nat) (v : Value) : Lies (w.setCell ⟨b, i, none⟩ v) b (l.set i v) T := by
  have := heap_setCell_same (i := i) w b _ T v h
  unfold Lies
  rw [this]
  simp
theorem Lies.but {w w' : World} {b pb : Nat} {l : List Value} {T : TypeId} (h : Lies w b l T) (hb : But pb w w') (hn : b ≠ pb) : Lies w' b l T := (hb.block b h.lt hn).trans h
theorem Lies.below {w w' : World} {b : Nat} {l : List Value} {T : TypeId} (h : Lies w b l T) (hb : Below w.heap.size w w') : Lies w' b l T := (hb.block b h.lt).trans h
theorem Lies.new (w : World) (l : List Value) (T : TypeId) : Lies (w.alloc (.cells l.toArray T)) w.heap.size l T := heap_alloc_new w _
end Go.Proofs.YtajhegjemhegiaaDoor
namespace Go.Proofs.YtajhegjemhegiaaDoor
open Go.RowKit

theorem results_cell_tmp {P : Program} {fn : Func} {p t : Tmp} {ty : TypeId} (h : fn.results = #[.cell p ty, .tmp t]) (tmps : Array Value) (w : World) (g : Nat) (T : TypeId) (cs : Array Value) (fr : Nat × Nat) (d : TypeDesc)
    (hp : tmps.getD p undef = .pointer (some ⟨g, 0, none⟩)) (hg : w.heap[g]? = some (.cells cs T fr))
    (hu : P.underlying ty = some d) (hd : (match d with | .struct _ | .array _ _ => true | _ => false) = true) (hi : (P.info? ty).map (·.size) = some cs.size) :
    (results fn tmps).run P w = .ok (.tuple #[.agg cs, tmps.getD t undef]) w := by
  have hp' : tmps[p]?.getD undef = .pointer (some ⟨g, 0, none⟩) := by simpa using hp
  simp [results, h, hp', asAddr, run_loadVar_row w g T ty cs fr d hg hu hd hi]
end Go.Proofs.YtajhegjemhegiaaDoor
