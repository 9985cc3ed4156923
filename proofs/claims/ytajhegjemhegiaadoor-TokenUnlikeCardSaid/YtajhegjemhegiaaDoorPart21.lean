/-
  Texts of one claim, merged.
  TokenLaws: The contracts of the program's functions of chapter 12, as sentences that its laws start from; however a ring lies in memory. No conditions but those typed.
  TokenAwake: The example of chapter 12, as its laws ask it. The conditions: the program's contracts; mac's table.
-/
import Derived.Test.YtajhegjemhegiaaDoorPart08
import Derived.Test.YtajhegjemhegiaaDoorPart12
import Derived.Test.YtajhegjemhegiaaDoorPart18
import Derived.Test.YtajhegjemhegiaaDoorWireDecC
import Derived.Test.YtajhegjemhegiaaDoorPart07
import Derived.OwnWalk
namespace Go.Proofs.YtajhegjemhegiaaDoor
open Go.RowKit TextNat TokenMath

/-- Claims with this key. -/
def ClaimsV.keyed (x : ClaimsV) (c : Int) : ClaimsV := { x with key := c }
/-- Is a plain number alive? -/
def aliveN (c : Int) (n : Nat) : Bool := aliveB c (n : Int)
/-- What Mint answers: the token of right claims under the current key; else an error that says 1. -/
def MintIs (w : World) (m : ByteArray) (c : Int) (x : ClaimsV) (e : Ending) : Prop :=
  if (x.keyed c).right = true then e = .returned (.tuple #[.string (txt (tokenOf (nats m) (x.keyed c).t)), .nilIface])
  else ∃ r, e = .returned (.tuple #[.string ⟨#[]⟩, r]) ∧ ErrIs w 1 r
/-- The claims are in bounds. -/
structure ClaimsV.few (x : ClaimsV) : Prop where
  small : x.small
  vec : x.cl.length ≤ 9223372036854775807
def MintOk (R : Rng) : Prop := ∀ (b : Nat) (S : Nat → Prop) (m : ByteArray) (c : Int) (x : ClaimsV) (w : World), R.at_ w b S m c → rightB m c = true → Parts w → Ints w x.cp x.cl → x.few →
  Calls Tryd.prog 11 #[rptr b, x.val] w fun e w' => MintIs w' m c x e ∧ Below w.heap.size w w'
/-- What Read answers: the claims whose token a text is, with a live key, their counts in new memory; else an error that says 9. -/
def ReadTIs (B : Nat) (w : World) (m : ByteArray) (c : Int) (s : ByteArray) (e : Ending) : Prop :=
  match readF (aliveN c) (nats m) (nats s) with
  | some v => ∃ dp dc, e = .returned (.tuple #[(readCV v dp dc).val, .nilIface]) ∧ Ints w dp (v.2.2.2.2.2.map Int.ofNat) ∧ ∀ a, dp = some a → B ≤ a.block
  | none => ∃ r, e = .returned (.tuple #[zeroC, r]) ∧ ErrIs w 9 r
def ReadTOk (R : Rng) : Prop := ∀ (b : Nat) (S : Nat → Prop) (m : ByteArray) (c : Int) (s : ByteArray) (w : World), R.at_ w b S m c → rightB m c = true → Parts w → s.size ≤ 20000 →
  Calls Tryd.prog 10 #[rptr b, .string s] w fun e w' => ReadTIs w.heap.size w' m c s e ∧ Below w.heap.size w w'
/-- Without a ring. -/
def TNoneOk : Prop :=
  (∀ (x : ClaimsV) (w : World), Ints w x.cp x.cl → x.few → Calls Tryd.prog 11 #[.pointer none, x.val] w fun e w' => (∃ r, e = .returned (.tuple #[.string ⟨#[]⟩, r]) ∧ ErrIs w' 1 r) ∧ Below w.heap.size w w') ∧
  (∀ (s : ByteArray) (w : World), s.size ≤ 140737488355328 → Calls Tryd.prog 10 #[.pointer none, .string s] w fun e w' => (∃ r, e = .returned (.tuple #[zeroC, r]) ∧ ErrIs w' 9 r) ∧ Below w.heap.size w w')
section
variable {R : Rng} {B b : Nat} {w : World} {m : ByteArray} {c : Int}
theorem HasR.mint (hM : MintOk R) (h : HasR R B w b m c) (hr : rightB m c = true) (hP : Parts w) (x : ClaimsV) (hx : Ints w x.cp x.cl) (hs : x.few) :
    Calls Tryd.prog 11 #[rptr b, x.val] w fun e w' => MintIs w' m c x e ∧ Below w.heap.size w w' := by
  obtain ⟨S, h1, h2⟩ := h
  exact hM b S m c x w h1 hr hP hx hs
theorem HasR.readT (hQ : ReadTOk R) (h : HasR R B w b m c) (hr : rightB m c = true) (hP : Parts w) (s : ByteArray) (hs : s.size ≤ 20000) :
    Calls Tryd.prog 10 #[rptr b, .string s] w fun e w' => ReadTIs w.heap.size w' m c s e ∧ Below w.heap.size w w' := by
  obtain ⟨S, h1, h2⟩ := h
  exact hQ b S m c s w h1 hr hP hs
end
theorem token_lt (m : List Nat) (v : WireMath.ClaimsT) : ∀ b ∈ tokenOf m v, b < 256 := by
  intro b hb
  rcases List.mem_append.1 hb with h | h
  · exact TextMath.enc_lt _ b h
  · rcases List.mem_cons.1 h with rfl | h
    · decide
    · exact TextMath.enc_lt _ b h
theorem t_octs (x : ClaimsV) : Octs x.t := ⟨nats_lt _, nats_lt _⟩
theorem key_keyed (x : ClaimsV) (c : Int) : keyN (x.keyed c).t = c.toNat := rfl
/-- What was minted is read as what it was minted of, by a ring that takes its key. -/
theorem read_minted {m : ByteArray} {c d : Int} {x : ClaimsV} (hx : (x.keyed c).right = true) (ha : aliveN d c.toNat = true) : readF (aliveN d) (nats m) (nats (txt (tokenOf (nats m) (x.keyed c).t))) = some (x.keyed c).t := by
  rw [nats_txt _ (token_lt _ _)]
  exact readF_iff.2 ⟨rightC_t ((rightC_iff _).1 hx), t_octs _, ha, rfl⟩
/-- .. and by no other one. -/
theorem read_retired {m : ByteArray} {c d : Int} {x : ClaimsV} (hx : (x.keyed c).right = true) (ha : aliveN d c.toNat = false) : readF (aliveN d) (nats m) (nats (txt (tokenOf (nats m) (x.keyed c).t))) = none := by
  rw [nats_txt _ (token_lt _ _)]
  cases h : readF (aliveN d) (nats m) (tokenOf (nats m) (x.keyed c).t) with
  | none => rfl
  | some v =>
    obtain ⟨h1, h2, h3, h4⟩ := readF_iff.1 h
    have h5 := token_one (rightC_t ((rightC_iff _).1 hx)) h1 (t_octs _) h2 h4
    rw [← h5, key_keyed, ha] at h3
    cases h3
theorem read_cut {alive : Nat → Bool} {m m' : List Nat} {v : WireMath.ClaimsT} {i : Nat} (hi : i < (tokenOf m v).length) : readF alive m' ((tokenOf m v).take i) = none := by
  cases h : readF alive m' ((tokenOf m v).take i) with
  | none => rfl
  | some u =>
    obtain ⟨_, _, _, h4⟩ := readF_iff.1 h
    exact absurd h4 (token_cut hi)
theorem read_more {alive : Nat → Bool} {m m' : List Nat} {v : WireMath.ClaimsT} {c : Nat} : readF alive m' (tokenOf m v ++ [c]) = none := by
  cases h : readF alive m' (tokenOf m v ++ [c]) with
  | none => rfl
  | some u =>
    obtain ⟨_, _, _, h4⟩ := readF_iff.1 h
    exact absurd h4 token_more
end Go.Proofs.YtajhegjemhegiaaDoor
namespace Go.Proofs.YtajhegjemhegiaaDoor
open Go.RowKit TextNat TokenMath

/-- The claims of the example; their vector lies in this block. -/
def basisV (vb : Nat) : ClaimsV := ⟨⟨#[49, 45, 49]⟩, ⟨#[97, 110, 110]⟩, 0, 0, 0, some ⟨vb, 0, none⟩, [2], 1⟩
theorem basis_right (vb : Nat) (c : Int) (h0 : 0 ≤ c) (h1 : c ≤ 1099511627776) : ((basisV vb).keyed c).right = true := by
  unfold ClaimsV.right
  show (inr 3 1 64 && (inr 3 1 32 && (inr 0 0 1099511627776 && (inr 0 0 1099511627776 && (inr c 0 1099511627776 && WireMath.trimmed [2] WireMath.big))))) = true
  rw [show inr c 0 1099511627776 = true by unfold inr; simp; omega]
  decide
theorem basis_few (vb : Nat) : (basisV vb).few :=
  ⟨⟨⟨show (-9223372036854775808 : Int) ≤ 0 by decide, show (0 : Int) ≤ 9223372036854775807 by decide⟩, ⟨show (-9223372036854775808 : Int) ≤ 0 by decide, show (0 : Int) ≤ 9223372036854775807 by decide⟩, ⟨show (-9223372036854775808 : Int) ≤ 0 by decide, show (0 : Int) ≤ 9223372036854775807 by decide⟩, show (1 : Nat) ≤ 9223372036854775807 by decide⟩, show (1 : Nat) ≤ 9223372036854775807 by decide⟩
set_option maxRecDepth 100000 in
set_option maxHeartbeats 4000000 in
theorem basis_ok (w : World) : Calls Tryd.prog 16 #[] w fun e w' => (∃ vb, e = .returned (basisV vb).val ∧ Ints w' (some ⟨vb, 0, none⟩) [2]) ∧ Below w.heap.size w w' := by
  go_enter Tryd.func16, Tryd.ntmps16
  go_wp2
  have LA := (Lies.new w [.string ⟨#[49, 45, 49]⟩, .string ⟨#[97, 110, 110]⟩, .int .i64 0, .int .i64 0, .int .i64 0, .slice (some ⟨w.heap.size + 1, 0, none⟩) 1 1] 31).below ((Below.refl _ _).alloc (Nat.le_refl _) (.cells #[.int .i64 2] 3))
  refine bodyPost_ret (results_cell_row Tryd.results16 _ _ w.heap.size 31 _ (0, 0) _ rfl LA Tryd.underlying31 rfl (by kernel_rfl)) rfl ?_
  refine ⟨⟨w.heap.size + 1, rfl, fun i z hz => ?_⟩, ((Below.refl _ _).alloc (Nat.le_refl _) _).alloc (by simp) _⟩
  match i, hz with
  | 0, hz =>
    obtain rfl := Option.some.inj hz
    refine ⟨by decide, w.heap.size + 1, 0, rfl, ?_⟩
    simp
theorem basis_read (vb : Nat) (dp : Option Addr) (dc : Nat) : (readCV ((basisV vb).keyed 4).t dp dc).val = .agg #[.string ⟨#[49, 45, 49]⟩, .string ⟨#[97, 110, 110]⟩, .int .i64 0, .int .i64 0, .int .i64 4, .slice dp 1 dc] := by
  show Value.agg #[.string (txt (nats ⟨#[49, 45, 49]⟩)), .string (txt (nats ⟨#[97, 110, 110]⟩)), .int .i64 ((0 : Nat) : Int), .int .i64 ((0 : Nat) : Int), .int .i64 ((4 : Nat) : Int), .slice dp 1 dc] = _
  rw [txt_nats, txt_nats]
  rfl
set_option maxRecDepth 100000 in
set_option maxHeartbeats 4000000 in
theorem awake_true {R : Rng} (hN : RNewOk R) (hM : MintOk R) (hQ : ReadTOk R) (w : World) (hP : Parts w) :
    Calls Tryd.prog 8 #[] w fun e w' => e = .returned (.bool true) ∧ Below w.heap.size w w' := by
  have HN := Lib.hid (hN ⟨#[109]⟩ 4 w (by decide) (by decide))
  have HP := Lib.hid hP
  have HR := Lib.hid (show rightB ⟨#[109]⟩ 4 = true by decide)
  have HM := Lib.hid hM
  have HQ := Lib.hid hQ
  clear hN hP hM hQ
  go_enter Tryd.func8, Tryd.ntmps8
  go_wp2_with fail
  refine HN.out.mono ?_
  rintro e w1 ⟨h1, hb⟩
  rw [if_pos HR.out] at h1
  obtain ⟨b, rfl, h1⟩ := h1
  have HH := Lib.hid h1
  have HB := Lib.hid hb
  clear h1 hb HN
  go_wp2_with fail
  refine (basis_ok w1).mono ?_
  rintro e w2 ⟨⟨vb, rfl, hi⟩, hb⟩
  have HI := Lib.hid hi
  replace HH := Lib.hid (HH.out.below hb)
  replace HB := Lib.hid (HB.out.trans (hb.mono HB.out.size))
  clear hi hb
  go_wp2_with fail
  refine (HasR.mint HM.out HH.out HR.out (HP.out.grown HB.out) (basisV vb) HI.out (basis_few vb)).mono ?_
  rintro e w3 ⟨h3, hb⟩
  unfold MintIs at h3
  rw [if_pos (basis_right vb 4 (by decide) (by decide))] at h3
  obtain rfl := h3
  replace HH := Lib.hid (HH.out.below hb)
  replace HB := Lib.hid (HB.out.trans (hb.mono HB.out.size))
  have HRd := Lib.hid (read_minted (m := ⟨#[109]⟩) (c := 4) (d := 4) (basis_right vb 4 (by decide) (by decide)) (by decide))
  obtain ⟨L, hL⟩ : ∃ L, L = tokenOf (nats ⟨#[109]⟩) ((basisV vb).keyed 4).t := ⟨_, rfl⟩
  obtain ⟨k, hk⟩ : ∃ k, k = (TextMath.enc (WireMath.claimsBytesT ((basisV vb).keyed 4).t)).length := ⟨_, rfl⟩
  have hlen : L.length = k + 44 := by rw [hL, hk]; exact tok_len (tag_len _ _)
  have hdot : L[k]? = some 46 := by rw [hL]; exact tok_dot.2 hk
  have hk0 : 0 < k := by rw [hk, show ((basisV vb).keyed 4).t = (nats ⟨#[49, 45, 49]⟩, nats ⟨#[97, 110, 110]⟩, 0, 0, 4, [2]) from rfl]; decide
  have hk1 : k ≤ 1000 := by rw [hk, show ((basisV vb).keyed 4).t = (nats ⟨#[49, 45, 49]⟩, nats ⟨#[97, 110, 110]⟩, 0, 0, 4, [2]) from rfl]; decide
  obtain ⟨TS, hTS⟩ : ∃ TS, TS = txt L := ⟨_, rfl⟩
  have hlt : ∀ x ∈ L, x < 256 := by rw [hL]; exact token_lt _ _
  have hsz : TS.size = k + 44 := by rw [hTS, txt_len, hlen]
  have hkz : k < TS.size := by omega
  have hx : ((TS[k]'hkz).toNat : Int) = 46 := by
    have h1 := nats_at TS k hkz
    have h0 : nats TS = L := by rw [hTS]; exact nats_txt L hlt
    rw [h0, hdot] at h1
    have h2 := Option.some.inj h1
    omega
  rw [← hL] at HRd
  rw [← hL, ← hTS]
  rw [← hTS] at HRd
  have HSZ := Lib.hid hsz
  have HK0 := Lib.hid (And.intro hk0 hk1)
  have HX := Lib.hid hx
  clear hb hL hk hk0 hk1 hlen hdot hlt hTS hx
  go_wp2_with fail
  refine (HasR.readT HQ.out HH.out HR.out (HP.out.grown HB.out) TS (by have := HSZ.out; have := HK0.out; omega)).mono ?_
  rintro e w4 ⟨h4, hb⟩
  unfold ReadTIs at h4
  rw [HRd.out] at h4
  obtain ⟨dp, dc, rfl, hi, _⟩ := h4
  rw [basis_read]
  replace HB := Lib.hid (HB.out.trans (hb.mono HB.out.size))
  clear hb hi
  have t1 : decide ((44 : Int) < (TS.size : Int)) = true := decide_eq_true (by have := HSZ.out; have := HK0.out; omega)
  have hsz' := HSZ.out
  have hx' := HX.out
  have hw : wrap64 (k : Int) = (k : Int) := by
    have := HK0.out
    unfold wrap64; omega
  go_wp2
  · go_ret
    exact ⟨rfl, HB.out.alloc (by have := HB.out.size; omega) _⟩
  · exfalso
    have := HK0.out
    omega
end Go.Proofs.YtajhegjemhegiaaDoor
