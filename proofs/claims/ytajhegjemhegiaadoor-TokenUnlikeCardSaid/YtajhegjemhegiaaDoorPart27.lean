/-
  Texts of one claim, merged.
  TextDecode: The contract of the program's Dec of chapter 4: the bytes, one by one, or the place of the first letter that can't be. The condition: a text of at most 2^47 bytes.
  TokenTold: The program's told of chapter 12: the claims ahead of a text's dot. The condition: a text of at most 2^47 bytes.
  TokenShort: How long tokens of right claims are. No program is run here.
-/
import Derived.Test.YtajhegjemhegiaaDoorPart26
import Derived.Test.YtajhegjemhegiaaDoorPart24
import Derived.Test.YtajhegjemhegiaaDoorPart21
import Derived.Test.YtajhegjemhegiaaDoorPart06
import Derived.Test.YtajhegjemhegiaaDoorPart18
import Derived.Test.YtajhegjemhegiaaDoorPart12
namespace Go.Proofs.YtajhegjemhegiaaDoor
open Go.RowKit TextNat

theorem or_six (h x : Nat) (hx : x < 64) : bits .or .u32 ((h : Int) * 64 % 4294967296) (x : Int) = ((h % 67108864 * 64 + x : Nat) : Int) := by
  have e : (h : Int) * 64 % 4294967296 = ((2 ^ 6 * (h % 67108864) : Nat) : Int) := by omega
  rw [e, u32_or _ _ (by omega) (by omega), ← Nat.two_pow_add_eq_or_of_lt (by omega)]
  omega
theorem held_six (h x n : Nat) (hx : x < 64) (hn : n < 8) : (h % 67108864 * 64 + x) % 2 ^ (n + 6) = h % 2 ^ n * 64 + x := by
  have : n = 0 ∨ n = 1 ∨ n = 2 ∨ n = 3 ∨ n = 4 ∨ n = 5 ∨ n = 6 ∨ n = 7 := by omega
  rcases this with rfl | rfl | rfl | rfl | rfl | rfl | rfl | rfl <;> simp only [Nat.reducePow, Nat.reduceAdd] <;> omega
theorem low_byte (g q : Nat) (h8 : 8 ≤ q) (hq : q < 14) : g % 2 ^ q / 2 ^ (q - 8) % 256 = g / 2 ^ (q - 8) % 256 := by
  have : q = 8 ∨ q = 9 ∨ q = 10 ∨ q = 11 ∨ q = 12 ∨ q = 13 := by omega
  rcases this with rfl | rfl | rfl | rfl | rfl | rfl <;> simp only [Nat.reducePow, Nat.reduceSub] <;> omega
theorem byte_of (g p : Nat) : ((g : Int) / 2 ^ p) % 256 = ((g / 2 ^ p % 256 : Nat) : Int) := by
  have e : (g : Int) / 2 ^ p = ((g / 2 ^ p : Nat) : Int) := by rw [Int.natCast_ediv, Int.natCast_pow]; rfl
  rw [e]
  omega

theorem grow_any (n : Nat) (w : World) (hn : n ≤ 281474976710656) :
    Calls Tryd.prog 49 #[.pointer (some ⟨w.heap.size, 0, none⟩), .int .i64 (n : Int)] (w.alloc (.cells #[.pointer none, .slice none 0 0] 101)) fun e w' => e = .returned (.tuple #[]) ∧ Holds w.heap.size [] w' ∧ Below w.heap.size w w' := by
  refine (Tryd.Builder_Grow_fresh w.heap.size w.heap.size n _ (Nat.le_refl _) (heap_alloc_new w _) (by simp) hn).mono ?_
  rintro e w' ⟨rfl, h1, h2⟩
  exact ⟨rfl, .inr h1, ((Below.refl _ _).alloc (Nat.le_refl _) _).trans h2⟩
theorem put_any (B c : Nat) (l : List Nat) (w : World) (h : Holds B l w) (hc : c < 256) (hl : l.length + 1 ≤ 140737488355328) (hB : B ≤ w.heap.size) :
    Calls Tryd.prog 51 #[.pointer (some ⟨B, 0, none⟩), .int .u8 (c : Int)] w fun e w' => e = .returned .nilIface ∧ Holds B (l ++ [c]) w' ∧ Below B w w' := by
  refine (Tryd.Builder_WriteByte B B _ (c : Int) w h (by rw [Lib.byteCells_length, List.length_map]; omega) hB).mono ?_
  rintro e w' ⟨rfl, h1, h2⟩
  exact ⟨rfl, Holds.snoc hc rfl h1, h2⟩
/-- Where a letter can't be. -/
theorem dec_bad (s : ByteArray) (w : World) (hs : s.size ≤ 140737488355328) (n : Nat) (hf : TextMath.fault (nats s) = some n) :
    Calls Tryd.prog 34 #[.string s] w fun e w' => (∃ v, e = .returned (.tuple #[.string ByteArray.empty, v]) ∧ Chain w'.heap.size w' [(⟨#[116, 101, 120, 116]⟩, (n : Int))] (.iface 40 (.int .i64 2)) v) ∧ Below w.heap.size w w' := by
  have h1 := fun w => wrongOk s w hs
  unfold wrongValue at h1
  rw [hf] at h1
  have HWR := Lib.hid h1
  clear h1 hf
  have HAT := Lib.hid (fun w => at_chain ⟨#[116, 101, 120, 116]⟩ (n : Int) [] 2 (.iface 40 (.int .i64 2)) w rfl)
  go_enter Tryd.func34, Tryd.ntmps34
  go_wp2_with (first
    | (go_at_call 48; refine (HWR.out _).mono ?_; rintro e w2 ⟨rfl, rfl⟩)
    | (go_at_call 17; refine (HAT.out _).mono ?_; rintro e w3 ⟨r, rfl, hc, hb⟩))
  go_ret2
  exact ⟨⟨r, rfl, hc⟩, hb⟩

set_option maxRecDepth 100000 in
set_option maxHeartbeats 4000000 in
/-- Where all can be. -/
theorem dec_good (s : ByteArray) (w : World) (hs : s.size ≤ 140737488355328) (hf : TextMath.fault (nats s) = none) :
    Calls Tryd.prog 34 #[.string s] w fun e w' => e = .returned (.tuple #[.string (txt (TextMath.decBytes (nats s))), .nilIface]) ∧ Below w.heap.size w w' := by
  have h1 := fun w => wrongOk s w hs
  unfold wrongValue at h1
  rw [hf] at h1
  have HWR := Lib.hid h1
  have hg := grow_any (s.size * 6 / 8) w (by omega)
  rw [show ((s.size * 6 / 8 : Nat) : Int) = (s.size : Int) * 6 / 8 by omega] at hg
  have HG := Lib.hid hg
  obtain ⟨l, hl⟩ : ∃ l, l = nats s := ⟨_, rfl⟩
  have hll : l.length = s.size := by rw [hl]; exact nats_len s
  rw [← hl] at hf
  obtain ⟨f1, f2, _⟩ := TextMath.fault_says hf
  have HE := Lib.hid (TextMath.bytes_all l (fun c hc => by
    obtain ⟨j, hj⟩ := List.getElem?_of_mem hc
    exact f1 j c hj) f2)
  have HF1 := Lib.hid f1
  have HL := Lib.hid hl
  have HLL := Lib.hid hll
  rw [← hl]
  clear hg hl hll h1 hf f1 f2
  go_enter Tryd.func34, Tryd.ntmps34
  go_wp2_with (first
    | (go_at_call 48; refine (HWR.out _).mono ?_; rintro e w2 ⟨rfl, hw⟩; obtain rfl := hw.symm; clear hw)
    | (go_at_call 49; refine HG.out.mono ?_; rintro e w2 ⟨rfl, h0, hb0⟩; have H0 := Lib.hid h0; have HB0 := Lib.hid hb0; clear h0 hb0))
  go_loopg [7, 8, 26] s.size (fun gh s7 s8 s26 wx => ∃ i h n : Nat, ∃ acc : List Nat, i + gh = s.size ∧ s7 = .int .u32 (h : Int) ∧ s8 = .int .i64 (n : Int) ∧ s26 = .int .i64 (i : Int) ∧ h < 4294967296 ∧ n < 8 ∧
    Hid (acc ++ TextMath.bytesFrom n (h % 2 ^ n) (l.drop i) = TextMath.decBytes l) ∧ Hid (8 * acc.length + n = 6 * i) ∧ Holds w.heap.size acc wx ∧ Below w.heap.size w wx)
  case atStart => exact ⟨0, 0, 0, [], by omega, by go_num, by go_num, by go_num, by omega, by omega, Lib.hid HE.out, Lib.hid rfl, H0.out, HB0.out⟩
  case round =>
    obtain ⟨i, h, n, acc, hi, rfl, rfl, rfl, hh, hn, he, ha, hown, hb⟩ := hrel
    clear H0 HB0
    by_cases hlt : i < s.size
    · have t1 : decide ((i : Int) < (s.size : Int)) = true := decide_eq_true (by omega)
      have t1' : decide (i < s.size) = true := decide_eq_true hlt
      obtain ⟨z, hz⟩ : ∃ z, z = (s[i]'hlt).toNat := ⟨_, rfl⟩
      have hx : ((s[i]'hlt).toNat : Int) = (z : Int) := by rw [hz]
      have hzl : z < 256 := by rw [hz]; exact UInt8.toNat_lt _
      have hzi : l[i]? = some z := by rw [hz, HL.out]; exact nats_at s i hlt
      have h64 := HF1.out i z hzi
      have HNU := Lib.hid (fun w => numberOk z w hzl)
      obtain ⟨x, hxd⟩ : ∃ x, x = TextMath.number z := ⟨_, rfl⟩
      obtain ⟨r, hr⟩ : ∃ r, r = l.drop (i + 1) := ⟨_, rfl⟩
      have hd : l.drop i = z :: r := by rw [hr]; exact drop_step hzi
      obtain ⟨g, hg⟩ : ∃ g, g = h % 67108864 * 64 + x := ⟨_, rfl⟩
      rw [← hxd] at h64 HNU
      have hgl : g < 4294967296 := by omega
      have e3 : bits .or .u32 ((h : Int) * 64 % 4294967296) (x : Int) = (g : Int) := by rw [hg]; exact or_six h x h64
      obtain ⟨q, hq⟩ : ∃ q, q = n + 6 := ⟨_, rfl⟩
      have em : (n : Int) + 6 = (q : Int) := by omega
      have hql : q < 14 := by omega
      have h1 : acc ++ TextMath.bytesFrom q (g % 2 ^ q) r = TextMath.decBytes l := by
        rw [← he.out, hd, TextMath.bytes_take _ _ _ hn, hq, hg, held_six h x n h64 hn, hxd]
      have h2 : 8 * acc.length + q = 6 * (i + 1) := by have := ha.out; omega
      have hal : acc.length + 1 ≤ 140737488355328 := by omega
      have HR := Lib.hid hr
      have HO := Lib.hid hown
      have HB := Lib.hid hb
      have HW := Lib.hid hb.size
      clear hz hzi hown hb he ha hr hd hg hq hxd
      by_cases h8 : 8 ≤ q
      · have t3 : decide (8 ≤ (q : Int)) = true := decide_eq_true (by omega)
        obtain ⟨p, hp⟩ : ∃ p, p = q - 8 := ⟨_, rfl⟩
        have ep : (q : Int) - 8 = (p : Int) := by omega
        have hpl : p < 8 := by omega
        obtain ⟨y, hy⟩ : ∃ y, y = g / 2 ^ p % 256 := ⟨_, rfl⟩
        have hyl : y < 256 := by omega
        have k4 : ((g : Int) / 2 ^ p) % 256 = (y : Int) := by rw [hy]; exact byte_of g p
        have N1 := Lib.hid (show (acc ++ [y]) ++ TextMath.bytesFrom p (g % 2 ^ p) (l.drop (i + 1)) = TextMath.decBytes l by
          rw [← h1, TextMath.bytes_put _ _ h8, hy, hp, List.append_assoc, low_byte g q h8 hql, Nat.mod_mod_of_dvd _ (Nat.pow_dvd_pow 2 (by omega : q - 8 ≤ q)), HR.out]
          rfl)
        have N2 := Lib.hid (show 8 * (acc ++ [y]).length + p = 6 * (i + 1) by rw [List.length_append]; simp only [List.length_cons, List.length_nil]; omega)
        clear h1 h2 hp hy h8
        go_wp2_with (first
          | (go_at_call 50; refine (HNU.out _).mono ?_; rintro e w2 ⟨rfl, rfl⟩)
          | (go_at_call 51; refine (put_any w.heap.size y acc _ HO.out hyl hal HW.out).mono ?_; rintro e w3 ⟨rfl, h3, hb3⟩; have HO3 := Lib.hid h3; have HB3 := Lib.hid (HB.out.trans hb3); clear h3 hb3))
        go_roundg (s.size - (i + 1))
        case measure => omega
        case rel => exact ⟨i + 1, g, p, acc ++ [y], by omega, rfl, rfl, by go_num, hgl, hpl, N1, N2, HO3.out, HB3.out⟩
      · have t3 : decide (8 ≤ (q : Int)) = false := decide_eq_false (by omega)
        rw [HR.out] at h1
        have N1 := Lib.hid h1
        have N2 := Lib.hid h2
        have H8 := Lib.hid h8
        clear h1 h2 h8
        go_wp2_with (go_at_call 50; refine (HNU.out _).mono ?_; rintro e w2 ⟨rfl, rfl⟩)
        go_roundg (s.size - (i + 1))
        case measure => omega
        case rel => exact ⟨i + 1, g, q, acc, by omega, rfl, rfl, by go_num, hgl, by have := H8.out; omega, N1, N2, HO.out, HB.out⟩
    · obtain rfl : i = s.size := by omega
      have t1 : decide (s.size < s.size) = false := decide_eq_false (by omega)
      have HD := Lib.hid (show l.drop s.size = [] by rw [← HLL.out]; exact List.drop_length)
      have N1 := Lib.hid (show acc = TextMath.decBytes l by
        rw [← he.out, HD.out, TextMath.bytes_end _ hn, List.append_nil])
      have HO := Lib.hid hown
      have HB := Lib.hid hb
      have HW := Lib.hid hb.size
      clear hown hb he ha
      go_wp2_with (go_at_call 52; refine (told w.heap.size _ _ HO.out HW.out).mono ?_; rintro e w4 ⟨rfl, hb4⟩; have HB4 := Lib.hid (HB.out.trans hb4); clear hb4)
      go_ret2
      exact ⟨by rw [← N1.out]; rfl, HB4.out⟩

theorem dec_any (s : ByteArray) (w : World) (hs : s.size ≤ 140737488355328) : Calls Tryd.prog 34 #[.string s] w fun e w' => Decoded (nats s) e w' ∧ Below w.heap.size w w' := by
  cases hf : TextMath.fault (nats s) with
  | none =>
    refine (dec_good s w hs hf).mono ?_
    rintro e w' ⟨rfl, hb⟩
    refine ⟨?_, hb⟩
    unfold Decoded
    rw [hf]
  | some n =>
    refine (dec_bad s w hs n hf).mono ?_
    rintro e w' ⟨h, hb⟩
    refine ⟨?_, hb⟩
    unfold Decoded
    rw [hf]
    exact h
theorem decOk : DecOk := fun s w hs => dec_any s w (by omega)
end Go.Proofs.YtajhegjemhegiaaDoor
namespace Go.Proofs.YtajhegjemhegiaaDoor
open Go.RowKit TextNat TokenMath

abbrev tkname : ByteArray := ⟨#[116, 111, 107, 101, 110]⟩
theorem tok_err (n c : Int) (w : World) : Calls Tryd.prog 17 #[.string tkname, .int .i64 n, .iface 40 (.int .i64 c)] w fun e w' => (∃ x, e = .returned x ∧ ErrIs w' c x) ∧ Below w.heap.size w w' := by
  refine (at_chain tkname n [] c _ w rfl).mono ?_
  rintro e w' ⟨r, rfl, h, hb⟩
  exact ⟨⟨r, rfl, ⟨_, h⟩⟩, hb⟩
set_option maxRecDepth 100000 in
theorem refusal_tok (n c : Int) (w : World) : Calls Tryd.prog 20 #[.int .i64 n, .int .i64 c] w fun e w' => (∃ x, e = .returned x ∧ ErrIs w' c x) ∧ Below w.heap.size w w' := by
  have HE := Lib.hid (tok_err n c w)
  go_enter Tryd.func20, Tryd.ntmps20
  go_wp2_with fail
  refine HE.out.mono ?_
  rintro e w' ⟨⟨x, rfl, hx⟩, hb⟩
  have HX := Lib.hid hx
  have HB := Lib.hid hb
  clear hx hb
  go_wp2
  go_ret
  exact ⟨⟨x, rfl, HX.out⟩, HB.out⟩
/-- The claims that stand ahead of a text's dot. -/
def toldF (l : List Nat) : Option WireMath.ClaimsT := if (TextMath.fault (ahead l)).isSome then none else claimsOf (TextMath.decBytes (ahead l))
theorem read_told (alive : Nat → Bool) (m l : List Nat) : readF alive m l = match toldF l with
    | none => none
    | some v => if alive (keyN v) = true ∧ tokenOf m v = l then some v else none := by
  unfold readF toldF ahead
  cases h : l.findIdx? (· == 46) with
  | some i =>
    simp only
    split
    · rfl
    · split <;> simp_all
  | none =>
    simp only
    symm
    split
    · rfl
    · rename_i v _
      rw [if_neg]
      rintro ⟨_, h2⟩
      have := find_tok (WireMath.claimsBytesT v) (tagOf m v)
      rw [show tok (WireMath.claimsBytesT v) (tagOf m v) = l from h2, h] at this
      cases this
/-- What told answers. -/
def ToldIs (B : Nat) (w : World) (s : ByteArray) (e : Ending) : Prop :=
  match toldF (nats s) with
  | some v => ∃ dp dc, e = .returned (.tuple #[(readCV v dp dc).val, .string (txt (WireMath.claimsBytesT v)), .bool true]) ∧ Ints w dp (v.2.2.2.2.2.map Int.ofNat) ∧ ∀ a, dp = some a → B ≤ a.block
  | none => ∃ D, e = .returned (.tuple #[zeroC, .string D, .bool false])
theorem vecNew_at {B n c : Nat} {x0 x1 x2 x3 x4 r : Value} {dp : Option Addr} (h : vecNew B (.returned (.tuple #[.agg #[x0, x1, x2, x3, x4, .slice dp n c], r]))) : ∀ a, dp = some a → B ≤ a.block := by
  rintro a rfl
  exact h
theorem row_drew {w : World} {b : Nat} {l : List Value} {T : TypeId} (h : Row w b l T) : Row w.drew b l T := h
theorem decC_claims (l : List Nat) : decC l = claimsOf l := rfl
theorem results_cell_two {P : Program} {fn : Func} {p t u : Tmp} {ty : TypeId} (h : fn.results = #[.cell p ty, .tmp t, .tmp u]) (tmps : Array Value) (w : World) (g : Nat) (T : TypeId) (cs : Array Value) (fr : Nat × Nat) (d : TypeDesc)
    (hp : tmps.getD p undef = .pointer (some ⟨g, 0, none⟩)) (hg : w.heap[g]? = some (.cells cs T fr))
    (hu : P.underlying ty = some d) (hd : (match d with | .struct _ | .array _ _ => true | _ => false) = true) (hi : (P.info? ty).map (·.size) = some cs.size) :
    (results fn tmps).run P w = .ok (.tuple #[.agg cs, tmps.getD t undef, tmps.getD u undef]) w := by
  have hp' : tmps[p]?.getD undef = .pointer (some ⟨g, 0, none⟩) := by simpa using hp
  simp [results, h, hp', asAddr, run_loadVar_row w g T ty cs fr d hg hu hd hi]
set_option maxRecDepth 100000 in
set_option maxHeartbeats 8000000 in
theorem told_ok (s : ByteArray) (w : World) (hs : s.size ≤ 140737488355328) :
    Calls Tryd.prog 19 #[.string s] w fun e w' => ToldIs w.heap.size w' s e ∧ Below w.heap.size w w' := by
  have HC := Lib.hid (fun w1 => cut_dot s w1 (by omega))
  have HS := Lib.hid hs
  clear hs
  go_enter Tryd.func19, Tryd.ntmps19
  go_wp2_with fail
  obtain ⟨W, hW⟩ : ∃ W, W = w.alloc (.cells #[.string ⟨#[]⟩, .string ⟨#[]⟩, .int .i64 0, .int .i64 0, .int .i64 0, .slice none 0 0] 31) := ⟨_, rfl⟩
  rw [← hW]
  have HB := Lib.hid (show Below w.heap.size w W by rw [hW]; exact (Below.refl _ _).alloc (Nat.le_refl _) _)
  have HRes := Lib.hid (show Row W w.heap.size zerosC 31 by rw [hW]; exact Row.new w zerosC _)
  clear hW
  refine (HC.out W).mono ?_
  rintro e w1 ⟨⟨a, t, b, rfl, ha⟩, hb⟩
  replace HRes := Lib.hid (HRes.out.below hb)
  replace HB := Lib.hid (HB.out.trans (hb.mono HB.out.size))
  have HA := Lib.hid ha
  clear hb ha HC
  have HD := Lib.hid (dec_any a w1 (by
    have h1 : (nats a).length ≤ (nats s).length := by
      rw [HA.out]
      unfold ahead
      split
      · exact Nat.le_refl _
      · rw [List.length_take]; omega
    rw [nats_len, nats_len] at h1
    have := HS.out
    omega))
  have HF := Lib.hid (show toldF (nats s) = if (TextMath.fault (nats a)).isSome then none else claimsOf (TextMath.decBytes (nats a)) by rw [HA.out]; rfl)
  go_wp2_with fail
  refine HD.out.mono ?_
  rintro e w2 ⟨h2, hb⟩
  replace HRes := Lib.hid (HRes.out.below hb)
  replace HB := Lib.hid (HB.out.trans (hb.mono HB.out.size))
  clear hb HD
  unfold Decoded at h2
  cases hf : TextMath.fault (nats a) with
  | some k =>
    rw [hf] at h2 HF
    obtain ⟨x, rfl, hx⟩ := h2
    obtain ⟨T, y, rfl⟩ := (show ErrIs w2 2 x from ⟨_, hx⟩).iface
    have HN := Lib.hid (show toldF (nats s) = none from HF.out)
    clear hx hf HF
    have c0 := HRes.out.cell (i := 0) rfl; have g0 := HRes.out.free 0; have c1 := HRes.out.cell (i := 1) rfl; have g1 := HRes.out.free 1; have c2 := HRes.out.cell (i := 2) rfl; have g2 := HRes.out.free 2; have c3 := HRes.out.cell (i := 3) rfl; have g3 := HRes.out.free 3; have c4 := HRes.out.cell (i := 4) rfl; have g4 := HRes.out.free 4; have c5 := HRes.out.cell (i := 5) rfl; have g5 := HRes.out.free 5
    go_wp2
    obtain ⟨q1, q2⟩ := put_six HRes.out (.string ⟨#[]⟩) (.string ⟨#[]⟩) (.int .i64 0) (.int .i64 0) (.int .i64 0) (.slice none 0 0)
    refine bodyPost_ret (results_cell_two Tryd.results19 _ _ w.heap.size 31 _ (0, 0) _ rfl q1 Tryd.underlying31 rfl (by kernel_rfl)) rfl ?_
    exact ⟨by unfold ToldIs; rw [HN.out]; exact ⟨⟨#[]⟩, rfl⟩, HB.out.trans (q2.below HB.out.size)⟩
  | none =>
    rw [hf] at h2 HF
    replace HF := Lib.hid (show toldF (nats s) = claimsOf (TextMath.decBytes (nats a)) from HF.out)
    simp only at h2
    subst h2
    obtain ⟨D, hD⟩ : ∃ D, D = txt (TextMath.decBytes (nats a)) := ⟨_, rfl⟩
    have HDn := Lib.hid (show nats D = TextMath.decBytes (nats a) by rw [hD]; exact nats_txt _ (TextMath.decBytes_lt _))
    have HDs := Lib.hid (show D.size ≤ 140737488355328 by
      rw [hD, txt_len, TextMath.decBytes_len, HA.out]
      have h1 : (ahead (nats s)).length ≤ (nats s).length := by
        unfold ahead
        split
        · exact Nat.le_refl _
        · rw [List.length_take]; omega
      rw [nats_len] at h1
      have := HS.out
      omega)
    rw [← hD]
    clear hf hD
    go_wp2_with fail
    refine (decClaims_new D w2 HDs.out).mono ?_
    rintro e w3 ⟨⟨h3, hvn⟩, hb⟩
    unfold DecIsC at h3
    rw [decC_claims, HDn.out] at h3
    have HLt := Lib.hid HRes.out.lt
    replace HRes := Lib.hid (HRes.out.below hb)
    have HSz := Lib.hid HB.out.size
    replace HB := Lib.hid (HB.out.trans (hb.mono HB.out.size))
    clear hb
    cases hcl : claimsOf (TextMath.decBytes (nats a)) with
    | none =>
      rw [hcl] at h3 HF
      obtain ⟨x, k, rfl, hx⟩ := h3
      obtain ⟨T, y, rfl⟩ := (show ErrIs w3 2 x from ⟨_, hx⟩).iface
      have HN := Lib.hid HF.out
      unfold zeroC
      clear hcl HF hvn hx HDn
      have hb : Below w3.heap.size w3 (w3.alloc (.cells #[.string ⟨#[]⟩, .string ⟨#[]⟩, .int .i64 0, .int .i64 0, .int .i64 0, .slice none 0 0] 31)) := (Below.refl _ _).alloc (Nat.le_refl _) _
      have HRow := Lib.hid (show Row (w3.alloc (.cells #[.string ⟨#[]⟩, .string ⟨#[]⟩, .int .i64 0, .int .i64 0, .int .i64 0, .slice none 0 0] 31)) w3.heap.size [.string ⟨#[]⟩, .string ⟨#[]⟩, .int .i64 0, .int .i64 0, .int .i64 0, .slice none 0 0] 31 from Row.new w3 _ _)
      replace HRes := Lib.hid (HRes.out.below hb)
      replace HB := Lib.hid (HB.out.trans (hb.mono HB.out.size))
      clear hb
      have r0 := HRow.out.cell (i := 0) rfl; have r1 := HRow.out.cell (i := 1) rfl; have r2 := HRow.out.cell (i := 2) rfl; have r3 := HRow.out.cell (i := 3) rfl; have r4 := HRow.out.cell (i := 4) rfl; have r5 := HRow.out.cell (i := 5) rfl
      have c0 := HRes.out.cell (i := 0) rfl; have g0 := HRes.out.free 0; have c1 := HRes.out.cell (i := 1) rfl; have g1 := HRes.out.free 1; have c2 := HRes.out.cell (i := 2) rfl; have g2 := HRes.out.free 2; have c3 := HRes.out.cell (i := 3) rfl; have g3 := HRes.out.free 3; have c4 := HRes.out.cell (i := 4) rfl; have g4 := HRes.out.free 4; have c5 := HRes.out.cell (i := 5) rfl; have g5 := HRes.out.free 5
      have mixed : Tryd.prog.follows .mixedOrders = true := by kernel_rfl
      go_wp2
      go_region_o
      go_wp2
      obtain ⟨q0, q2⟩ := put_six HRes.out (.string ⟨#[]⟩) (.string ⟨#[]⟩) (.int .i64 0) (.int .i64 0) (.int .i64 0) (.slice none 0 0)
      have q1 := row_drew q0
      refine bodyPost_ret (results_cell_two Tryd.results19 _ _ w.heap.size 31 _ (0, 0) _ rfl q1 Tryd.underlying31 rfl (by kernel_rfl)) rfl ?_
      exact ⟨by unfold ToldIs; rw [HN.out]; exact ⟨D, rfl⟩, (HB.out.trans (q2.below HB.out.size)).drew⟩
    | some v =>
      rw [hcl] at h3 HF
      obtain ⟨hv1, hv2⟩ := (claimsOf_iff (TextMath.decBytes_lt (nats a)) v).1 hcl
      have hoc := claims_octs (TextMath.decBytes_lt (nats a)) hv2
      have HDt := Lib.hid (show txt (WireMath.claimsBytesT v) = D by rw [← hv2, ← HDn.out, txt_nats])
      obtain ⟨dp, dc, rfl, hz⟩ := h3
      have HSm := Lib.hid HF.out
      obtain ⟨v1, v2, v3, v4, v5, v6⟩ := v
      have HLn := Lib.hid (show (v6.map Int.ofNat).length = v6.length from List.length_map ..)
      have hval : (readCV (v1, v2, v3, v4, v5, v6) dp dc).val = .agg #[.string (txt v1), .string (txt v2), .int .i64 (v3 : Int), .int .i64 (v4 : Int), .int .i64 (v5 : Int), .slice dp v6.length dc] := by simp only [readCV, ClaimsV.val, HLn.out]
      rw [hval] at hvn ⊢
      have HNew := Lib.hid (show ∀ a, dp = some a → w.heap.size < a.block from fun a ha => by
        have h1 := vecNew_at hvn a ha
        have h2 := HLt.out
        omega)
      have HVal := Lib.hid hval
      have hb : Below w3.heap.size w3 (w3.alloc (.cells #[.string (txt v1), .string (txt v2), .int .i64 (v3 : Int), .int .i64 (v4 : Int), .int .i64 (v5 : Int), .slice dp v6.length dc] 31)) := (Below.refl _ _).alloc (Nat.le_refl _) _
      replace HRes := Lib.hid (HRes.out.below hb)
      replace HB := Lib.hid (HB.out.trans (hb.mono HB.out.size))
      have HZ := Lib.hid (show Ints (w3.alloc (.cells #[.string (txt v1), .string (txt v2), .int .i64 (v3 : Int), .int .i64 (v4 : Int), .int .i64 (v5 : Int), .slice dp v6.length dc] 31)) dp (v6.map Int.ofNat) from Ints.grown hz hb)
      have HRow := Lib.hid (show Row (w3.alloc (.cells #[.string (txt v1), .string (txt v2), .int .i64 (v3 : Int), .int .i64 (v4 : Int), .int .i64 (v5 : Int), .slice dp v6.length dc] 31)) w3.heap.size [.string (txt v1), .string (txt v2), .int .i64 (v3 : Int), .int .i64 (v4 : Int), .int .i64 (v5 : Int), .slice dp v6.length dc] 31 from Row.new w3 _ _)
      clear hcl hv1 hv2 hoc hval hvn hb hz HF HDn
      have r0 := HRow.out.cell (i := 0) rfl; have r1 := HRow.out.cell (i := 1) rfl; have r2 := HRow.out.cell (i := 2) rfl; have r3 := HRow.out.cell (i := 3) rfl; have r4 := HRow.out.cell (i := 4) rfl; have r5 := HRow.out.cell (i := 5) rfl
      have c0 := HRes.out.cell (i := 0) rfl; have g0 := HRes.out.free 0; have c1 := HRes.out.cell (i := 1) rfl; have g1 := HRes.out.free 1; have c2 := HRes.out.cell (i := 2) rfl; have g2 := HRes.out.free 2; have c3 := HRes.out.cell (i := 3) rfl; have g3 := HRes.out.free 3; have c4 := HRes.out.cell (i := 4) rfl; have g4 := HRes.out.free 4; have c5 := HRes.out.cell (i := 5) rfl; have g5 := HRes.out.free 5
      have mixed : Tryd.prog.follows .mixedOrders = true := by kernel_rfl
      go_wp2
      go_region_o
      go_wp2
      obtain ⟨q0, q2⟩ := put_six HRes.out (.string (txt v1)) (.string (txt v2)) (.int .i64 (v3 : Int)) (.int .i64 (v4 : Int)) (.int .i64 (v5 : Int)) (.slice dp v6.length dc)
      have q1 := row_drew q0
      refine bodyPost_ret (results_cell_two Tryd.results19 _ _ w.heap.size 31 _ (0, 0) _ rfl q1 Tryd.underlying31 rfl (by kernel_rfl)) rfl ?_
      refine ⟨?_, (HB.out.trans (q2.below HB.out.size)).drew⟩
      unfold ToldIs
      rw [HSm.out]
      refine ⟨dp, dc, ?_, (HZ.out.but q2 (fun a ha => by have := HNew.out a ha; omega)).grown (Below.refl _ _).drew, fun a ha => Nat.le_of_lt (HNew.out a ha)⟩
      rw [HVal.out, HDt.out]
      rfl
end Go.Proofs.YtajhegjemhegiaaDoor
namespace TokenMath
open TextMath WireMath

theorem numF_le : ∀ f n, (numF f n).length ≤ f + 1
  | 0, n => by simp [numF]
  | f + 1, n => by
    unfold numF
    split
    · simp
    · have := numF_le f (n / 128)
      simp only [List.length_cons]
      omega
theorem num_le (n : Nat) : (WireMath.num n).length ≤ 9 := numF_le 8 n
theorem counts_le : ∀ v : List Nat, (countsBytes v).length ≤ 9 * v.length
  | [] => by simp [countsBytes]
  | a :: v => by
    have h1 := counts_le v
    have h2 := num_le a
    unfold countsBytes at *
    simp only [List.flatMap_cons, List.length_append, List.length_cons]
    omega
theorem bytes_short {v : ClaimsT} (h : rightClaimsT v = true) : (claimsBytesT v).length ≤ 300 := by
  unfold rightClaimsT at h
  simp only [Bool.and_eq_true, decide_eq_true_eq] at h
  obtain ⟨⟨⟨⟨⟨⟨⟨a1, a2⟩, a3⟩, a4⟩, a5⟩, a6⟩, a7⟩, a8⟩ := h
  obtain ⟨c1, c2⟩ := trimmed_counts a8
  unfold claimsBytesT textBytes vecBytesN
  simp only [List.length_append]
  have := num_le v.1.length
  have := num_le v.2.1.length
  have := num_le v.2.2.1
  have := num_le v.2.2.2.1
  have := num_le v.2.2.2.2.1
  have := num_le v.2.2.2.2.2.length
  have := counts_le v.2.2.2.2.2
  omega
theorem token_short {m : List Nat} {v : ClaimsT} (h : rightClaimsT v = true) : (tokenOf m v).length ≤ 20000 := by
  have h1 := bytes_short h
  unfold tokenOf
  rw [tok_len (tag_len m v), TokenMath.enc_len]
  omega
end TokenMath
