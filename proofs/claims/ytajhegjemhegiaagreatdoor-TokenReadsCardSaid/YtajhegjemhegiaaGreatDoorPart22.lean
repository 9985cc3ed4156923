/-
  Texts of one claim, merged.
  RefNum5: The contract of the document's own Number of chapter 5: a number's bytes. The condition: a number below 2^63.
  RefTrimmed: The contract of the document's own Trimmed of chapter 5: it only reads. The condition: the slice's cells.
  RefBytes: The contract of the document's own Bytes of chapter 5: a thing's bytes, or that it can't be. The conditions: the vector's cells; texts of at most 100,000 bytes.
-/
import Derived.Test.YtajhegjemhegiaaGreatDoorPart10
import Derived.Test.YtajhegjemhegiaaGreatDoorPart13
import Derived.Test.YtajhegjemhegiaaGreatDoorPart12
namespace Go.Proofs.YtajhegjemhegiaaGreatDoor
open Go.RowKit TextNat

/-- One byte laid in memory, as a text. -/
theorem one_byte (w : World) (x : Nat) (hx : x < 256) :
    (convert 99 9 (.slice (some ⟨w.heap.size, 0, none⟩) 1 1)).run Tryz.prog (w.alloc (.cells #[.int .u8 (x : Int)] 5)) = .ok (.string (txt [x])) (w.alloc (.cells #[.int .u8 (x : Int)] 5)) := by
  have h := text_row (w.alloc (.cells #[.int .u8 (x : Int)] 5)) w.heap.size 1 [x] (by simpa using hx) (fun j hj => by
    simp at hj
    subst hj
    rw [World.cell?_alloc_at _ _ _ _ (by simp)]
    rfl)
  exact h

theorem txt_size_append (D E : List Nat) : ¬ 9223372036854775807 < (txt D).size + (txt E).size ↔ D.length + E.length ≤ 9223372036854775807 := by
  rw [txt_len, txt_len]; omega

set_option maxRecDepth 100000 in
set_option maxHeartbeats 4000000 in
theorem refNumber (n : Nat) (w : World) (hn : n < 9223372036854775808) :
    Calls Tryz.prog 93 #[.int .i64 (n : Int)] w fun e w' => e = .returned (.string (txt (WireMath.num n))) ∧ Below w.heap.size w w' := by
  have HL := Lib.hid (WireMath.num_len n)
  go_enter Tryz.func93, Tryz.ntmps93
  go_wp2
  go_loopg [0, 3] n (fun gh s0 s3 wx => s0 = .int .i64 (gh : Int) ∧ gh ≤ n ∧ (∃ D : ByteArray, s3 = .string D ∧ Hid (nats D ++ WireMath.num gh = WireMath.num n)) ∧ Below w.heap.size w wx)
  case atStart => exact ⟨rfl, Nat.le_refl _, ⟨⟨#[]⟩, rfl, Lib.hid rfl⟩, Below.refl _ _⟩
  case round =>
    obtain ⟨rfl, hk, ⟨D, rfl, hD⟩, hb⟩ := hrel
    have HB := Lib.hid hb
    clear hb
    have hDs : D.size ≤ 9 := by
      have h1 := congrArg List.length hD.out
      rw [List.length_append, nats_len] at h1
      have := HL.out
      omega
    by_cases h : 128 ≤ gk
    · have t1 : decide ((128 : Int) ≤ (gk : Int)) = true := decide_eq_true (by omega)
      have t1' : decide (128 ≤ gk) = true := decide_eq_true h
      obtain ⟨y, hy⟩ : ∃ y, y = gk % 128 := ⟨_, rfl⟩
      obtain ⟨q, hq⟩ : ∃ q, q = gk / 128 := ⟨_, rfl⟩
      obtain ⟨x, hx⟩ : ∃ x, x = y + 128 := ⟨_, rfl⟩
      have f1 : (gk : Int).tmod 128 = (y : Int) := by rw [Int.tmod_eq_emod_of_nonneg (by omega)]; omega
      have f2 : (gk : Int).tdiv 128 = (q : Int) := by rw [Int.tdiv_eq_ediv_of_nonneg (by omega)]; omega
      have f3 : IntKind.i64.wrap ((y : Int) + 128) = (y : Int) + 128 := by rw [IntKind.wrap_i64]; omega
      have f4 : IntKind.u8.wrap ((y : Int) + 128) = (x : Int) := by rw [IntKind.wrap_u8]; omega
      have f5 : IntKind.i64.wrap (q : Int) = (q : Int) := by rw [IntKind.wrap_i64]; omega
      have f6 := one_byte wr x (by omega)
      have f7 : ¬ 9223372036854775807 < D.size + (txt [x]).size := by rw [txt_len]; simp; omega
      have HN := Lib.hid (show nats (D ++ txt [x]) ++ WireMath.num q = WireMath.num n by
        rw [nats_append, nats_txt _ (by simp; omega), List.append_assoc, ← hD.out, WireMath.num_step gk h (by omega), hx, hy, hq]
        rfl)
      have hqn : q < gk := by omega
      clear hy hx hq hDs
      go_wp2
      go_roundg q
      case measure => exact hqn
      case rel => exact ⟨rfl, by omega, ⟨_, rfl, HN⟩, HB.out.alloc HB.out.size _⟩
    · have t1 : decide ((128 : Int) ≤ (gk : Int)) = false := decide_eq_false (by omega)
      have t1' : decide (128 ≤ gk) = false := decide_eq_false h
      have f4 : IntKind.u8.wrap (gk : Int) = (gk : Int) := by rw [IntKind.wrap_u8]; omega
      have f6 := one_byte wr gk (by omega)
      have f7 : ¬ 9223372036854775807 < D.size + (txt [gk]).size := by rw [txt_len]; simp; omega
      have HN := Lib.hid (show D ++ txt [gk] = txt (WireMath.num n) by
        rw [← hD.out, WireMath.num_small gk (by omega), ← txt_append, txt_nats])
      clear hDs
      go_wp2
      go_ret
      exact ⟨congrArg (fun x => Ending.returned (Value.string x)) HN.out, HB.out.alloc HB.out.size _⟩
end Go.Proofs.YtajhegjemhegiaaGreatDoor
namespace Go.Proofs.YtajhegjemhegiaaGreatDoor
open Go.RowKit TextNat

set_option maxRecDepth 100000 in
set_option maxHeartbeats 4000000 in
theorem refTrimmed (zs : List Int) (pp : Option Addr) (cap : Nat) (top : Int) (w : World) (hz : Ints w pp zs) (hl : zs.length ≤ 9223372036854775807) :
    Calls Tryz.prog 47 #[.slice pp zs.length cap, .int .i64 top] w fun e w' => e = .returned (.bool (WireMath.trimmed zs top)) ∧ w' = w := by
  have HZ := Lib.hid hz
  clear hz
  by_cases h16 : 16 < zs.length
  · have t1 : decide ((16 : Int) < (zs.length : Int)) = true := decide_eq_true (by omega)
    have t1' : decide (16 < zs.length) = true := decide_eq_true h16
    rw [WireMath.trimmed_long h16]
    go_enter Tryz.func47, Tryz.ntmps47
    go_wp2
    go_ret
    exact ⟨rfl, rfl⟩
  · obtain ⟨N, hN⟩ : ∃ N, N = zs.length := ⟨_, rfl⟩
    have HN := Lib.hid hN
    rw [← hN]
    have hN16 : N ≤ 16 := by omega
    have t1 : decide ((16 : Int) < (N : Int)) = false := decide_eq_false (by omega)
    have t1' : decide (16 < N) = false := decide_eq_false (by omega)
    clear hl h16 hN
    go_enter Tryz.func47, Tryz.ntmps47
    go_wp2
    go_loopg [5] N (fun gh s5 wx => ∃ i : Nat, i + gh = N ∧ s5 = .int .i64 (i : Int) ∧ Hid (∀ (j : Nat) (z : Int), j < i → zs[j]? = some z → 0 ≤ z ∧ z ≤ top ∧ ¬ (j + 1 = zs.length ∧ z = 0)) ∧ wx = w)
    case atStart => exact ⟨0, by omega, by go_num, Lib.hid (fun j z h => absurd h (by omega)), rfl⟩
    case round =>
      obtain ⟨i, hi, rfl, hok, rfl⟩ := hrel
      by_cases hiN : i < N
      · have t2 : decide ((i : Int) < (N : Int)) = true := decide_eq_true (by omega)
        have t2' : decide (i < N) = true := decide_eq_true hiN
        have hlt : i < zs.length := by rw [← HN.out]; exact hiN
        obtain ⟨z, hz⟩ : ∃ z, zs[i]? = some z := ⟨_, List.getElem?_eq_getElem hlt⟩
        obtain ⟨hr, b, off, rfl, hc⟩ := HZ.out i z hz
        have HI := Lib.hid hz
        have HOK := Lib.hid (show (0 ≤ z ∧ z ≤ top ∧ ¬ (i + 1 = zs.length ∧ z = 0)) → ∀ (j : Nat) (y : Int), j < i + 1 → zs[j]? = some y → 0 ≤ y ∧ y ≤ top ∧ ¬ (j + 1 = zs.length ∧ y = 0) from fun h j y hj hy => by
          by_cases hji : j = i
          · subst hji
            rw [hz] at hy
            obtain rfl := Option.some.inj hy
            exact h
          · exact hok.out j y (by omega) hy)
        have HE := Lib.hid (show i + 1 = N ↔ i + 1 = zs.length by rw [HN.out])
        clear hz hlt hok
        by_cases hneg : z < 0
        · have HF := Lib.hid (WireMath.trimmed_bad (most := top) HI.out (.inl hneg))
          have t3 : decide (z < 0) = true := decide_eq_true hneg
          go_wp2
          go_ret
          rw [HF.out]
          exact ⟨rfl, rfl⟩
        · have t3 : decide (z < 0) = false := decide_eq_false hneg
          by_cases hbig : top < z
          · have HF := Lib.hid (WireMath.trimmed_bad (most := top) HI.out (.inr (.inl hbig)))
            have t4 : decide (top < z) = true := decide_eq_true hbig
            go_wp2
            go_ret
            rw [HF.out]
            exact ⟨rfl, rfl⟩
          · have t4 : decide (top < z) = false := decide_eq_false hbig
            by_cases hlast : i + 1 = N
            · have t5 : ((i : Int) == (N : Int) - 1) = true := by rw [beq_iff_eq]; omega
              by_cases h0 : z = 0
              · have HF := Lib.hid (WireMath.trimmed_bad (most := top) HI.out (.inr (.inr ⟨HE.out.1 hlast, h0⟩)))
                have t6 : (z == 0) = true := by rw [beq_iff_eq]; exact h0
                clear h0 hneg hbig
                go_wp2
                go_ret
                rw [HF.out]
                exact ⟨rfl, rfl⟩
              · have t6 : (z == 0) = false := by rw [beq_eq_false_iff_ne]; exact h0
                have HP := Lib.hid (HOK.out ⟨by omega, by omega, fun h => h0 h.2⟩)
                clear h0 hneg hbig HOK
                go_wp2
                go_roundg (N - (i + 1))
                case measure => omega
                case rel => exact ⟨i + 1, by omega, by go_num, HP, rfl⟩
            · have t5 : ((i : Int) == (N : Int) - 1) = false := by rw [beq_eq_false_iff_ne]; omega
              have HP := Lib.hid (HOK.out ⟨by omega, by omega, fun h => hlast (HE.out.2 h.1)⟩)
              clear hneg hbig HOK
              go_wp2
              go_roundg (N - (i + 1))
              case measure => omega
              case rel => exact ⟨i + 1, by omega, by go_num, HP, rfl⟩
      · obtain rfl : i = N := by omega
        have HF := Lib.hid (WireMath.trimmed_ok (v := zs) (most := top) (by rw [← HN.out]; exact hN16) fun j z hz => hok.out j z (by
          have h1 : j < zs.length := by
            rcases Nat.lt_or_ge j zs.length with g | g
            · exact g
            · rw [List.getElem?_eq_none g] at hz; cases hz
          rw [HN.out]
          exact h1) hz)
        have t2' : decide (i < i) = false := decide_eq_false (by omega)
        clear hok
        go_wp2
        go_ret
        rw [HF.out]
        exact ⟨rfl, rfl⟩
end Go.Proofs.YtajhegjemhegiaaGreatDoor
namespace Go.Proofs.YtajhegjemhegiaaGreatDoor
open Go.RowKit TextNat

/-- A thing as a value: its vector lies in memory. -/
structure Item where
  k : Int
  n : Int
  s : ByteArray
  b : Bool
  vp : Option Addr
  vl : List Int
  vc : Nat
def Item.val (x : Item) : Value := .agg #[.int .i64 x.k, .int .i64 x.n, .string x.s, .bool x.b, .slice x.vp x.vl.length x.vc]
def Item.thing (x : Item) : WireMath.Thing := ⟨x.k, x.n, nats x.s, x.b, x.vl⟩
def bytesValue : Option (List Nat) → Value
  | none => .tuple #[.string ⟨#[]⟩, .bool false]
  | some b => .tuple #[.string (txt b), .bool true]

theorem bytesValue_some (b : List Nat) : bytesValue (some b) = .tuple #[.string (txt b), .bool true] := rfl
theorem bytesValue_none : bytesValue none = .tuple #[.string ⟨#[]⟩, .bool false] := rfl
theorem below_step5 {W a w' : World} (h : Below W.heap.size W a) (hb : Below a.heap.size a w') : Below W.heap.size W w' := h.trans (hb.mono h.size)

/-- The count and the first numbers of a vector, as a text. -/
def vecUpTo (N : Nat) (vl : List Int) (i : Nat) : ByteArray := txt (WireMath.num N ++ (vl.take i).flatMap fun n => WireMath.num n.toNat)
theorem vecUpTo_zero (N : Nat) (vl : List Int) : txt (WireMath.num N) = vecUpTo N vl 0 := by simp [vecUpTo]
theorem vecUpTo_step {N : Nat} {vl : List Int} {i m : Nat} (h : vl[i]? = some (m : Int)) : vecUpTo N vl i ++ txt (WireMath.num m) = vecUpTo N vl (i + 1) := by
  unfold vecUpTo
  rw [txt_append, List.take_add_one, h]
  simp
theorem flatMap_num_len : ∀ l : List Int, (l.flatMap fun n => WireMath.num n.toNat).length ≤ 9 * l.length
  | [] => by simp
  | a :: l => by
    have h1 := WireMath.num_len a.toNat
    have h2 := flatMap_num_len l
    simp only [List.flatMap_cons, List.length_append, List.length_cons]
    omega
theorem vecUpTo_len (N : Nat) (vl : List Int) (i : Nat) : (vecUpTo N vl i).size ≤ 9 + 9 * i := by
  have h1 := WireMath.num_len N
  have h2 := flatMap_num_len (vl.take i)
  have h3 : (vl.take i).length ≤ i := by rw [List.length_take]; omega
  unfold vecUpTo
  rw [txt_len, List.length_append]
  omega
theorem vecUpTo_all (vl : List Int) : vecUpTo vl.length vl vl.length = txt (WireMath.vecBytes vl) := by
  unfold vecUpTo WireMath.vecBytes
  rw [List.take_length]

set_option maxRecDepth 100000 in
set_option maxHeartbeats 4000000 in
theorem refBytes (x : Item) (w : World) (hv : Ints w x.vp x.vl) (hs : x.s.size ≤ 100000) (hl : x.vl.length ≤ 1000000) :
    Calls Tryz.prog 75 #[x.val] w fun e w' => e = .returned (bytesValue (WireMath.bytes x.thing)) ∧ Below w.heap.size w w' := by
  obtain ⟨k, n, s, b, vp, vl, vc⟩ := x
  simp only [Item.val, Item.thing] at *
  obtain ⟨B, hB⟩ : ∃ B, B = w.heap.size := ⟨_, rfl⟩
  obtain ⟨W, hW⟩ : ∃ W, W = w.alloc (.cells #[.int .i64 k, .int .i64 n, .string s, .bool b, .slice vp vl.length vc] 96) := ⟨_, rfl⟩
  have hBW : Below w.heap.size w W := by rw [hW]; exact (Below.refl _ _).alloc (Nat.le_refl _) _
  have c0 : W.cell? ⟨B, 0, none⟩ = some (.int .i64 k) := by rw [hW, hB]; simp
  have c1 : W.cell? ⟨B, 1, none⟩ = some (.int .i64 n) := by rw [hW, hB]; simp
  have c2 : W.cell? ⟨B, 2, none⟩ = some (.string s) := by rw [hW, hB]; simp
  have c3 : W.cell? ⟨B, 3, none⟩ = some (.bool b) := by rw [hW, hB]; simp
  have c4 : W.cell? ⟨B, 4, none⟩ = some (.slice vp vl.length vc) := by rw [hW, hB]; simp
  have hBlt : B < W.heap.size := by rw [hW, hB]; simp
  have HI := Lib.hid (hv.grown hBW)
  have HBW := Lib.hid hBW
  have HW := Lib.hid hW
  have HB := Lib.hid hB
  clear hv hBW hW hB
  by_cases h1 : k = 1
  · subst h1
    have hb : WireMath.bytes ⟨1, n, nats s, b, vl⟩ = some (WireMath.num s.size ++ nats s) := by unfold WireMath.bytes; rw [if_pos rfl, nats_len]
    obtain ⟨N, hN⟩ : ∃ N, N = txt (WireMath.num s.size) := ⟨_, rfl⟩
    obtain ⟨V, hV⟩ : ∃ V, N ++ s = V := ⟨_, rfl⟩
    have hR : bytesValue (WireMath.bytes ⟨1, n, nats s, b, vl⟩) = .tuple #[.string V, .bool true] := by
      rw [hb, ← hV, hN]
      rw [bytesValue_some, ← txt_append, txt_nats]
    rw [hR]
    have HN := Lib.hid (fun w => refNumber s.size w (by omega))
    have hNs : N.size ≤ 9 := by rw [hN, txt_len]; exact WireMath.num_len _
    rw [← hN] at HN
    have f1 : ¬ 9223372036854775807 < N.size + s.size := by omega
    clear hN hNs hb hR
    go_enter Tryz.func75, Tryz.ntmps75
    go_wp2_with fail
    rw [← HW.out, ← HB.out]
    go_region_with (go_at_call 93; refine (HN.out _).mono ?_; rintro e w4 ⟨rfl, hb4⟩; have hq : Below W.heap.size W w4 := below_step5 (by go_grown) hb4; have hn : w4.cell? ⟨B, 2, none⟩ = some (.string s) := (hq.cell (p := ⟨B, 2, none⟩) hBlt).trans c2)
    all_goals
      go_wp2
      go_ret2
      exact ⟨rfl, HBW.out.trans (Below.mono (B := W.heap.size) (by go_grown) HBW.out.size)⟩
  · have e1 : (k == 1) = false := by rw [beq_eq_false_iff_ne]; exact h1
    by_cases h2 : k = 2
    · subst h2
      have hb : WireMath.bytes ⟨2, n, nats s, b, vl⟩ = some (WireMath.num (if b then 1 else 0)) := by unfold WireMath.bytes; rw [if_neg (show ¬ (2 : Int) = 1 by decide), if_pos rfl]
      have hR : bytesValue (WireMath.bytes ⟨2, n, nats s, b, vl⟩) = .tuple #[.string (txt (WireMath.num (if b then 1 else 0))), .bool true] := by rw [hb, bytesValue_some]
      rw [hR]
      have HN := Lib.hid (fun (z : Nat) w (h : z ≤ 1) => refNumber z w (by omega))
      clear hb hR
      cases b
      · go_enter Tryz.func75, Tryz.ntmps75
        go_wp2_with fail
        rw [← HW.out, ← HB.out]
        refine (HN.out 0 _ (by omega)).mono ?_
        rintro e w4 ⟨rfl, hb4⟩
        go_wp2
        go_ret2
        exact ⟨rfl, HBW.out.trans (hb4.mono HBW.out.size)⟩
      · go_enter Tryz.func75, Tryz.ntmps75
        go_wp2_with fail
        rw [← HW.out, ← HB.out]
        refine (HN.out 1 _ (by omega)).mono ?_
        rintro e w4 ⟨rfl, hb4⟩
        go_wp2
        go_ret2
        exact ⟨rfl, HBW.out.trans (hb4.mono HBW.out.size)⟩
    · have e2 : (k == 2) = false := by rw [beq_eq_false_iff_ne]; exact h2
      by_cases h3 : k = 3
      · subst h3
        have HT := Lib.hid (fun w1 (h : Below W.heap.size W w1) => refTrimmed vl vp vc 4611686018427387903 w1 (HI.out.grown h) (by omega))
        have hb : WireMath.bytes ⟨3, n, nats s, b, vl⟩ = if WireMath.trimmed vl WireMath.top then some (WireMath.vecBytes vl) else none := by
          unfold WireMath.bytes
          rw [if_neg (show ¬ (3 : Int) = 1 by decide), if_neg (show ¬ (3 : Int) = 2 by decide), if_pos rfl]
        rw [hb]
        have htop : (4611686018427387903 : Int) = (WireMath.top : Nat) := rfl
        rw [htop] at HT
        clear hb htop
        cases htr : WireMath.trimmed vl WireMath.top with
        | false =>
          rw [htr] at HT
          rw [if_neg (by decide), bytesValue_none]
          clear htr
          go_enter Tryz.func75, Tryz.ntmps75
          go_wp2_with fail
          rw [← HW.out, ← HB.out]
          refine (HT.out _ (Below.refl _ _)).mono ?_
          rintro e w4 ⟨rfl, rfl⟩
          go_wp2
          go_ret2
          exact ⟨rfl, HBW.out⟩
        | true =>
          rw [htr] at HT
          rw [if_pos rfl, bytesValue_some]
          obtain ⟨N, hN⟩ : ∃ N, N = vl.length := ⟨_, rfl⟩
          have hl16 : N ≤ 16 := by
            unfold WireMath.trimmed at htr
            simp only [Bool.and_eq_true, decide_eq_true_eq] at htr
            omega
          have HP := Lib.hid (show ∀ z ∈ vl, 0 ≤ z ∧ z ≤ 4611686018427387903 from fun z hz => by
            unfold WireMath.trimmed at htr
            simp only [Bool.and_eq_true, List.all_eq_true, decide_eq_true_eq] at htr
            exact htr.1.2 z hz)
          have HNm := Lib.hid (fun (m : Nat) w (h : m ≤ 4611686018427387903) => refNumber m w (by omega))
          have HNN := Lib.hid hN
          rw [← hN] at HT
          rw [← hN] at c4
          clear htr
          go_enter Tryz.func75, Tryz.ntmps75
          go_wp2_with fail
          rw [← HW.out, ← HB.out]
          rw [← hN]
          clear hN
          refine (HT.out _ (Below.refl _ _)).mono ?_
          rintro e w4 ⟨rfl, rfl⟩
          go_wp2_with fail
          refine (HNm.out N _ (by omega)).mono ?_
          rintro e w5 ⟨rfl, hb5⟩
          obtain ⟨S0, hS0⟩ : ∃ S0, S0 = txt (WireMath.num N) := ⟨_, rfl⟩
          rw [← hS0]
          have HS0 := Lib.hid hS0
          have HB5 := Lib.hid hb5
          have HNl := Lib.hid (WireMath.num_len N)
          clear hS0 hb5
          go_wp2_with fail
          clear HT HNl c0 c1 c2 c3
          go_loopg [4, 5] N (fun gh s4 s5 wx => ∃ (i : Nat) (S : ByteArray), i + gh = N ∧ s4 = .string S ∧ s5 = .int .i64 (i : Int) ∧ Hid (S = vecUpTo N vl i) ∧ Below w4.heap.size w4 wx)
          case atStart => exact ⟨0, _, by omega, rfl, by go_num, Lib.hid (by rw [HS0.out, vecUpTo_zero]), HB5.out⟩
          case round =>
            obtain ⟨i, S, hi, rfl, rfl, HS, hbr⟩ := hrel
            by_cases hiN : i < N
            · have t2 : decide ((i : Int) < (N : Int)) = true := decide_eq_true (by omega)
              have t2' : decide (i < N) = true := decide_eq_true hiN
              have hlt : i < vl.length := by rw [← HNN.out]; exact hiN
              obtain ⟨z, hz⟩ : ∃ z, vl[i]? = some z := ⟨_, List.getElem?_eq_getElem hlt⟩
              obtain ⟨h0, htop⟩ := HP.out z (List.mem_of_getElem? hz)
              obtain ⟨m, rfl⟩ : ∃ m : Nat, z = (m : Int) := ⟨z.toNat, by omega⟩
              obtain ⟨hr, b', off, rfl, hc⟩ := HI.out.grown hbr i _ hz
              have c4' : wr.cell? ⟨B, 4, none⟩ = some (.slice (some ⟨b', off, none⟩) N vc) := (hbr.cell (p := ⟨B, 4, none⟩) hBlt).trans c4
              have HR := HNm.out m wr (by omega)
              obtain ⟨T, hT⟩ : ∃ T, T = txt (WireMath.num m) := ⟨_, rfl⟩
              rw [← hT] at HR
              obtain ⟨U, hU⟩ : ∃ U, S ++ T = U := ⟨_, rfl⟩
              have HS' := Lib.hid (show U = vecUpTo N vl (i + 1) by rw [← hU, HS.out, hT, vecUpTo_step hz])
              have f1 : ¬ 9223372036854775807 < S.size + T.size := by
                have g1 := vecUpTo_len N vl i
                have g2 := WireMath.num_len m
                rw [HS.out, hT, txt_len]
                omega
              have HR := Lib.hid HR
              have HBr := Lib.hid hbr
              have c4 := c4'
              clear hz hlt hT HS
              go_wp2_with (go_at_call 93; refine HR.out.mono ?_; rintro e w6 ⟨rfl, hb6⟩)
              go_roundg (N - (i + 1))
              case measure => omega
              case rel => exact ⟨i + 1, U, by omega, rfl, by go_num, HS', HBr.out.trans (hb6.mono HBr.out.size)⟩
            · obtain rfl : i = N := by omega
              have t2' : decide (i < i) = false := decide_eq_false (by omega)
              have c4' : wr.cell? ⟨B, 4, none⟩ = some (.slice vp i vc) := (hbr.cell (p := ⟨B, 4, none⟩) hBlt).trans c4
              have HF := Lib.hid (show S = txt (WireMath.vecBytes vl) by rw [HS.out, ← vecUpTo_all, ← HNN.out])
              have HBr := Lib.hid hbr
              have c4 := c4'
              clear c4' hbr HS
              go_wp2
              go_ret2
              rw [HF.out]
              exact ⟨rfl, HBW.out.trans (HBr.out.mono HBW.out.size)⟩
      · have e3 : (k == 3) = false := by rw [beq_eq_false_iff_ne]; exact h3
        have hb : WireMath.bytes ⟨k, n, nats s, b, vl⟩ = if 0 ≤ n ∧ n ≤ WireMath.top then some (WireMath.num n.toNat) else none := by
          unfold WireMath.bytes
          rw [if_neg h1, if_neg h2, if_neg h3]
        rw [hb]
        by_cases hn : 0 ≤ n ∧ n ≤ WireMath.top
        · rw [if_pos hn, bytesValue_some]
          unfold WireMath.top at hn
          obtain ⟨m, rfl⟩ : ∃ m : Nat, n = (m : Int) := ⟨n.toNat, by omega⟩
          have HN := Lib.hid (fun w => refNumber m w (by omega))
          have t1 : decide ((m : Int) < 0) = false := decide_eq_false (by omega)
          have t2 : decide ((4611686018427387903 : Int) < (m : Int)) = false := decide_eq_false (by omega)
          have t3 : decide (4611686018427387903 < m) = false := decide_eq_false (by omega)
          rw [Int.toNat_natCast]
          clear hb hn
          go_enter Tryz.func75, Tryz.ntmps75
          go_wp2_with fail
          rw [← HW.out, ← HB.out]
          refine (HN.out _).mono ?_
          rintro e w4 ⟨rfl, hb4⟩
          go_wp2
          go_ret2
          exact ⟨rfl, HBW.out.trans (hb4.mono HBW.out.size)⟩
        · rw [if_neg hn, bytesValue_none]
          unfold WireMath.top at hn
          clear hb
          go_enter Tryz.func75, Tryz.ntmps75
          by_cases hneg : n < 0
          · have t1 : decide (n < 0) = true := decide_eq_true hneg
            go_wp2
            go_ret2
            rw [← HW.out]
            exact ⟨rfl, HBW.out⟩
          · have t1 : decide (n < 0) = false := decide_eq_false hneg
            have t2 : decide (4611686018427387903 < n) = true := decide_eq_true (by omega)
            go_wp2
            go_ret2
            rw [← HW.out]
            exact ⟨rfl, HBW.out⟩
end Go.Proofs.YtajhegjemhegiaaGreatDoor
