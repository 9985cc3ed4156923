/-
  Texts of one claim, merged.
  RefNum5: The contract of the document's own Number of chapter 5: a number's bytes. The condition: a number below 2^63.
  RefTrimmed: The contract of the document's own Trimmed of chapter 5: it only reads. The condition: the slice's cells.
  RefBytes: The contract of the document's own Bytes of chapter 5: a thing's bytes, or that it can't be. The conditions: the vector's cells; texts of at most 100,000 bytes.
  RefWritten: The contract of the document's own Written of chapter 5: things' bytes one behind the other, or the first fault with its place. The conditions: a row of things in one block from its first cell on, at most 1,000; what Bytes asks of each.
  ItemCells: Things as cells; what is written, as a text. No program is run here.
  WireThings: Plain mathematics of chapter 5: things' bytes by their kinds, and what things come to. No program, no conditions but those typed.
-/
import Derived.Test.YtajkldmpllphjaaGreatDoorPart02
import Derived.Test.YtajkldmpllphjaaGreatDoorPart06
import Derived.Test.YtajkldmpllphjaaGreatDoorPart05
import Derived.Lib.AppendStr
namespace Go.Proofs.YtajkldmpllphjaaGreatDoor
open Go.RowKit TextNat

/-- One byte laid in memory, as a text. -/
theorem one_byte (w : World) (x : Nat) (hx : x < 256) :
    (convert 59 9 (.slice (some ⟨w.heap.size, 0, none⟩) 1 1)).run Tryz.prog (w.alloc (.cells #[.int .u8 (x : Int)] 5)) = .ok (.string (txt [x])) (w.alloc (.cells #[.int .u8 (x : Int)] 5)) := by
  have h := text_row (w.alloc (.cells #[.int .u8 (x : Int)] 5)) w.heap.size 1 [x] (by simpa using hx) (fun j hj => by
    simp at hj
    subst hj
    rw [World.cell?_alloc_at _ _ _ _ (by simp)]
    rfl)
  exact h

theorem txt_size_append (D E : List Nat) : ¬ 9223372036854775807 < (txt D).size + (txt E).size ↔ D.length + E.length ≤ 9223372036854775807 := by
  rw [txt_len, txt_len]; omega

set_option maxRecDepth 100000 in
set_option maxHeartbeats 4000000 in
theorem refNumber (n : Nat) (w : World) (hn : n < 9223372036854775808) :
    Calls Tryz.prog 69 #[.int .i64 (n : Int)] w fun e w' => e = .returned (.string (txt (WireMath.num n))) ∧ Below w.heap.size w w' := by
  have HL := Lib.hid (WireMath.num_len n)
  go_enter Tryz.func69, Tryz.ntmps69
  go_wp2
  go_loopg [0, 3] n (fun gh s0 s3 wx => s0 = .int .i64 (gh : Int) ∧ gh ≤ n ∧ (∃ D : ByteArray, s3 = .string D ∧ Hid (nats D ++ WireMath.num gh = WireMath.num n)) ∧ Below w.heap.size w wx)
  case atStart => exact ⟨rfl, Nat.le_refl _, ⟨⟨#[]⟩, rfl, Lib.hid rfl⟩, Below.refl _ _⟩
  case round =>
    obtain ⟨rfl, hk, ⟨D, rfl, hD⟩, hb⟩ := hrel
    have HB := Lib.hid hb
    clear hb
    have hDs : D.size ≤ 9 := by
      have h1 := congrArg List.length hD.out
      rw [List.length_append, nats_len] at h1
      have := HL.out
      omega
    by_cases h : 128 ≤ gk
    · have t1 : decide ((128 : Int) ≤ (gk : Int)) = true := decide_eq_true (by omega)
      have t1' : decide (128 ≤ gk) = true := decide_eq_true h
      obtain ⟨y, hy⟩ : ∃ y, y = gk % 128 := ⟨_, rfl⟩
      obtain ⟨q, hq⟩ : ∃ q, q = gk / 128 := ⟨_, rfl⟩
      obtain ⟨x, hx⟩ : ∃ x, x = y + 128 := ⟨_, rfl⟩
      have f1 : (gk : Int).tmod 128 = (y : Int) := by rw [Int.tmod_eq_emod_of_nonneg (by omega)]; omega
      have f2 : (gk : Int).tdiv 128 = (q : Int) := by rw [Int.tdiv_eq_ediv_of_nonneg (by omega)]; omega
      have f3 : IntKind.i64.wrap ((y : Int) + 128) = (y : Int) + 128 := by rw [IntKind.wrap_i64]; omega
      have f4 : IntKind.u8.wrap ((y : Int) + 128) = (x : Int) := by rw [IntKind.wrap_u8]; omega
      have f5 : IntKind.i64.wrap (q : Int) = (q : Int) := by rw [IntKind.wrap_i64]; omega
      have f6 := one_byte wr x (by omega)
      have f7 : ¬ 9223372036854775807 < D.size + (txt [x]).size := by rw [txt_len]; simp; omega
      have HN := Lib.hid (show nats (D ++ txt [x]) ++ WireMath.num q = WireMath.num n by
        rw [nats_append, nats_txt _ (by simp; omega), List.append_assoc, ← hD.out, WireMath.num_step gk h (by omega), hx, hy, hq]
        rfl)
      have hqn : q < gk := by omega
      clear hy hx hq hDs
      go_wp2
      go_roundg q
      case measure => exact hqn
      case rel => exact ⟨rfl, by omega, ⟨_, rfl, HN⟩, HB.out.alloc HB.out.size _⟩
    · have t1 : decide ((128 : Int) ≤ (gk : Int)) = false := decide_eq_false (by omega)
      have t1' : decide (128 ≤ gk) = false := decide_eq_false h
      have f4 : IntKind.u8.wrap (gk : Int) = (gk : Int) := by rw [IntKind.wrap_u8]; omega
      have f6 := one_byte wr gk (by omega)
      have f7 : ¬ 9223372036854775807 < D.size + (txt [gk]).size := by rw [txt_len]; simp; omega
      have HN := Lib.hid (show D ++ txt [gk] = txt (WireMath.num n) by
        rw [← hD.out, WireMath.num_small gk (by omega), ← txt_append, txt_nats])
      clear hDs
      go_wp2
      go_ret
      exact ⟨congrArg (fun x => Ending.returned (Value.string x)) HN.out, HB.out.alloc HB.out.size _⟩
end Go.Proofs.YtajkldmpllphjaaGreatDoor
namespace Go.Proofs.YtajkldmpllphjaaGreatDoor
open Go.RowKit TextNat

set_option maxRecDepth 100000 in
set_option maxHeartbeats 4000000 in
theorem refTrimmed (zs : List Int) (pp : Option Addr) (cap : Nat) (top : Int) (w : World) (hz : Ints w pp zs) (hl : zs.length ≤ 9223372036854775807) :
    Calls Tryz.prog 70 #[.slice pp zs.length cap, .int .i64 top] w fun e w' => e = .returned (.bool (WireMath.trimmed zs top)) ∧ w' = w := by
  have HZ := Lib.hid hz
  clear hz
  by_cases h16 : 16 < zs.length
  · have t1 : decide ((16 : Int) < (zs.length : Int)) = true := decide_eq_true (by omega)
    have t1' : decide (16 < zs.length) = true := decide_eq_true h16
    rw [WireMath.trimmed_long h16]
    go_enter Tryz.func70, Tryz.ntmps70
    go_wp2
    go_ret
    exact ⟨rfl, rfl⟩
  · obtain ⟨N, hN⟩ : ∃ N, N = zs.length := ⟨_, rfl⟩
    have HN := Lib.hid hN
    rw [← hN]
    have hN16 : N ≤ 16 := by omega
    have t1 : decide ((16 : Int) < (N : Int)) = false := decide_eq_false (by omega)
    have t1' : decide (16 < N) = false := decide_eq_false (by omega)
    clear hl h16 hN
    go_enter Tryz.func70, Tryz.ntmps70
    go_wp2
    go_loopg [5] N (fun gh s5 wx => ∃ i : Nat, i + gh = N ∧ s5 = .int .i64 (i : Int) ∧ Hid (∀ (j : Nat) (z : Int), j < i → zs[j]? = some z → 0 ≤ z ∧ z ≤ top ∧ ¬ (j + 1 = zs.length ∧ z = 0)) ∧ wx = w)
    case atStart => exact ⟨0, by omega, by go_num, Lib.hid (fun j z h => absurd h (by omega)), rfl⟩
    case round =>
      obtain ⟨i, hi, rfl, hok, rfl⟩ := hrel
      by_cases hiN : i < N
      · have t2 : decide ((i : Int) < (N : Int)) = true := decide_eq_true (by omega)
        have t2' : decide (i < N) = true := decide_eq_true hiN
        have hlt : i < zs.length := by rw [← HN.out]; exact hiN
        obtain ⟨z, hz⟩ : ∃ z, zs[i]? = some z := ⟨_, List.getElem?_eq_getElem hlt⟩
        obtain ⟨hr, b, off, rfl, hc⟩ := HZ.out i z hz
        have HI := Lib.hid hz
        have HOK := Lib.hid (show (0 ≤ z ∧ z ≤ top ∧ ¬ (i + 1 = zs.length ∧ z = 0)) → ∀ (j : Nat) (y : Int), j < i + 1 → zs[j]? = some y → 0 ≤ y ∧ y ≤ top ∧ ¬ (j + 1 = zs.length ∧ y = 0) from fun h j y hj hy => by
          by_cases hji : j = i
          · subst hji
            rw [hz] at hy
            obtain rfl := Option.some.inj hy
            exact h
          · exact hok.out j y (by omega) hy)
        have HE := Lib.hid (show i + 1 = N ↔ i + 1 = zs.length by rw [HN.out])
        clear hz hlt hok
        by_cases hneg : z < 0
        · have HF := Lib.hid (WireMath.trimmed_bad (most := top) HI.out (.inl hneg))
          have t3 : decide (z < 0) = true := decide_eq_true hneg
          go_wp2
          go_ret
          rw [HF.out]
          exact ⟨rfl, rfl⟩
        · have t3 : decide (z < 0) = false := decide_eq_false hneg
          by_cases hbig : top < z
          · have HF := Lib.hid (WireMath.trimmed_bad (most := top) HI.out (.inr (.inl hbig)))
            have t4 : decide (top < z) = true := decide_eq_true hbig
            go_wp2
            go_ret
            rw [HF.out]
            exact ⟨rfl, rfl⟩
          · have t4 : decide (top < z) = false := decide_eq_false hbig
            by_cases hlast : i + 1 = N
            · have t5 : ((i : Int) == (N : Int) - 1) = true := by rw [beq_iff_eq]; omega
              by_cases h0 : z = 0
              · have HF := Lib.hid (WireMath.trimmed_bad (most := top) HI.out (.inr (.inr ⟨HE.out.1 hlast, h0⟩)))
                have t6 : (z == 0) = true := by rw [beq_iff_eq]; exact h0
                clear h0 hneg hbig
                go_wp2
                go_ret
                rw [HF.out]
                exact ⟨rfl, rfl⟩
              · have t6 : (z == 0) = false := by rw [beq_eq_false_iff_ne]; exact h0
                have HP := Lib.hid (HOK.out ⟨by omega, by omega, fun h => h0 h.2⟩)
                clear h0 hneg hbig HOK
                go_wp2
                go_roundg (N - (i + 1))
                case measure => omega
                case rel => exact ⟨i + 1, by omega, by go_num, HP, rfl⟩
            · have t5 : ((i : Int) == (N : Int) - 1) = false := by rw [beq_eq_false_iff_ne]; omega
              have HP := Lib.hid (HOK.out ⟨by omega, by omega, fun h => hlast (HE.out.2 h.1)⟩)
              clear hneg hbig HOK
              go_wp2
              go_roundg (N - (i + 1))
              case measure => omega
              case rel => exact ⟨i + 1, by omega, by go_num, HP, rfl⟩
      · obtain rfl : i = N := by omega
        have HF := Lib.hid (WireMath.trimmed_ok (v := zs) (most := top) (by rw [← HN.out]; exact hN16) fun j z hz => hok.out j z (by
          have h1 : j < zs.length := by
            rcases Nat.lt_or_ge j zs.length with g | g
            · exact g
            · rw [List.getElem?_eq_none g] at hz; cases hz
          rw [HN.out]
          exact h1) hz)
        have t2' : decide (i < i) = false := decide_eq_false (by omega)
        clear hok
        go_wp2
        go_ret
        rw [HF.out]
        exact ⟨rfl, rfl⟩
end Go.Proofs.YtajkldmpllphjaaGreatDoor
namespace Go.Proofs.YtajkldmpllphjaaGreatDoor
open Go.RowKit TextNat

/-- A thing as a value: its vector lies in memory. -/
structure Item where
  k : Int
  n : Int
  s : ByteArray
  b : Bool
  vp : Option Addr
  vl : List Int
  vc : Nat
def Item.val (x : Item) : Value := .agg #[.int .i64 x.k, .int .i64 x.n, .string x.s, .bool x.b, .slice x.vp x.vl.length x.vc]
def Item.thing (x : Item) : WireMath.Thing := ⟨x.k, x.n, nats x.s, x.b, x.vl⟩
def bytesValue : Option (List Nat) → Value
  | none => .tuple #[.string ⟨#[]⟩, .bool false]
  | some b => .tuple #[.string (txt b), .bool true]

theorem bytesValue_some (b : List Nat) : bytesValue (some b) = .tuple #[.string (txt b), .bool true] := rfl
theorem bytesValue_none : bytesValue none = .tuple #[.string ⟨#[]⟩, .bool false] := rfl
theorem below_step5 {W a w' : World} (h : Below W.heap.size W a) (hb : Below a.heap.size a w') : Below W.heap.size W w' := h.trans (hb.mono h.size)

/-- The count and the first numbers of a vector, as a text. -/
def vecUpTo (N : Nat) (vl : List Int) (i : Nat) : ByteArray := txt (WireMath.num N ++ (vl.take i).flatMap fun n => WireMath.num n.toNat)
theorem vecUpTo_zero (N : Nat) (vl : List Int) : txt (WireMath.num N) = vecUpTo N vl 0 := by simp [vecUpTo]
theorem vecUpTo_step {N : Nat} {vl : List Int} {i m : Nat} (h : vl[i]? = some (m : Int)) : vecUpTo N vl i ++ txt (WireMath.num m) = vecUpTo N vl (i + 1) := by
  unfold vecUpTo
  rw [txt_append, List.take_add_one, h]
  simp
theorem flatMap_num_len : ∀ l : List Int, (l.flatMap fun n => WireMath.num n.toNat).length ≤ 9 * l.length
  | [] => by simp
  | a :: l => by
    have h1 := WireMath.num_len a.toNat
    have h2 := flatMap_num_len l
    simp only [List.flatMap_cons, List.length_append, List.length_cons]
    omega
theorem vecUpTo_len (N : Nat) (vl : List Int) (i : Nat) : (vecUpTo N vl i).size ≤ 9 + 9 * i := by
  have h1 := WireMath.num_len N
  have h2 := flatMap_num_len (vl.take i)
  have h3 : (vl.take i).length ≤ i := by rw [List.length_take]; omega
  unfold vecUpTo
  rw [txt_len, List.length_append]
  omega
theorem vecUpTo_all (vl : List Int) : vecUpTo vl.length vl vl.length = txt (WireMath.vecBytes vl) := by
  unfold vecUpTo WireMath.vecBytes
  rw [List.take_length]

set_option maxRecDepth 100000 in
set_option maxHeartbeats 4000000 in
theorem refBytes (x : Item) (w : World) (hv : Ints w x.vp x.vl) (hs : x.s.size ≤ 100000) (hl : x.vl.length ≤ 1000000) :
    Calls Tryz.prog 55 #[x.val] w fun e w' => e = .returned (bytesValue (WireMath.bytes x.thing)) ∧ Below w.heap.size w w' := by
  obtain ⟨k, n, s, b, vp, vl, vc⟩ := x
  simp only [Item.val, Item.thing] at *
  obtain ⟨B, hB⟩ : ∃ B, B = w.heap.size := ⟨_, rfl⟩
  obtain ⟨W, hW⟩ : ∃ W, W = w.alloc (.cells #[.int .i64 k, .int .i64 n, .string s, .bool b, .slice vp vl.length vc] 80) := ⟨_, rfl⟩
  have hBW : Below w.heap.size w W := by rw [hW]; exact (Below.refl _ _).alloc (Nat.le_refl _) _
  have c0 : W.cell? ⟨B, 0, none⟩ = some (.int .i64 k) := by rw [hW, hB]; simp
  have c1 : W.cell? ⟨B, 1, none⟩ = some (.int .i64 n) := by rw [hW, hB]; simp
  have c2 : W.cell? ⟨B, 2, none⟩ = some (.string s) := by rw [hW, hB]; simp
  have c3 : W.cell? ⟨B, 3, none⟩ = some (.bool b) := by rw [hW, hB]; simp
  have c4 : W.cell? ⟨B, 4, none⟩ = some (.slice vp vl.length vc) := by rw [hW, hB]; simp
  have hBlt : B < W.heap.size := by rw [hW, hB]; simp
  have HI := Lib.hid (hv.grown hBW)
  have HBW := Lib.hid hBW
  have HW := Lib.hid hW
  have HB := Lib.hid hB
  clear hv hBW hW hB
  by_cases h1 : k = 1
  · subst h1
    have hb : WireMath.bytes ⟨1, n, nats s, b, vl⟩ = some (WireMath.num s.size ++ nats s) := by unfold WireMath.bytes; rw [if_pos rfl, nats_len]
    obtain ⟨N, hN⟩ : ∃ N, N = txt (WireMath.num s.size) := ⟨_, rfl⟩
    obtain ⟨V, hV⟩ : ∃ V, N ++ s = V := ⟨_, rfl⟩
    have hR : bytesValue (WireMath.bytes ⟨1, n, nats s, b, vl⟩) = .tuple #[.string V, .bool true] := by
      rw [hb, ← hV, hN]
      rw [bytesValue_some, ← txt_append, txt_nats]
    rw [hR]
    have HN := Lib.hid (fun w => refNumber s.size w (by omega))
    have hNs : N.size ≤ 9 := by rw [hN, txt_len]; exact WireMath.num_len _
    rw [← hN] at HN
    have f1 : ¬ 9223372036854775807 < N.size + s.size := by omega
    clear hN hNs hb hR
    go_enter Tryz.func55, Tryz.ntmps55
    go_wp2_with fail
    rw [← HW.out, ← HB.out]
    go_region_with (go_at_call 69; refine (HN.out _).mono ?_; rintro e w4 ⟨rfl, hb4⟩; have hq : Below W.heap.size W w4 := below_step5 (by go_grown) hb4; have hn : w4.cell? ⟨B, 2, none⟩ = some (.string s) := (hq.cell (p := ⟨B, 2, none⟩) hBlt).trans c2)
    all_goals
      go_wp2
      go_ret2
      exact ⟨rfl, HBW.out.trans (Below.mono (B := W.heap.size) (by go_grown) HBW.out.size)⟩
  · have e1 : (k == 1) = false := by rw [beq_eq_false_iff_ne]; exact h1
    by_cases h2 : k = 2
    · subst h2
      have hb : WireMath.bytes ⟨2, n, nats s, b, vl⟩ = some (WireMath.num (if b then 1 else 0)) := by unfold WireMath.bytes; rw [if_neg (show ¬ (2 : Int) = 1 by decide), if_pos rfl]
      have hR : bytesValue (WireMath.bytes ⟨2, n, nats s, b, vl⟩) = .tuple #[.string (txt (WireMath.num (if b then 1 else 0))), .bool true] := by rw [hb, bytesValue_some]
      rw [hR]
      have HN := Lib.hid (fun (z : Nat) w (h : z ≤ 1) => refNumber z w (by omega))
      clear hb hR
      cases b
      · go_enter Tryz.func55, Tryz.ntmps55
        go_wp2_with fail
        rw [← HW.out, ← HB.out]
        refine (HN.out 0 _ (by omega)).mono ?_
        rintro e w4 ⟨rfl, hb4⟩
        go_wp2
        go_ret2
        exact ⟨rfl, HBW.out.trans (hb4.mono HBW.out.size)⟩
      · go_enter Tryz.func55, Tryz.ntmps55
        go_wp2_with fail
        rw [← HW.out, ← HB.out]
        refine (HN.out 1 _ (by omega)).mono ?_
        rintro e w4 ⟨rfl, hb4⟩
        go_wp2
        go_ret2
        exact ⟨rfl, HBW.out.trans (hb4.mono HBW.out.size)⟩
    · have e2 : (k == 2) = false := by rw [beq_eq_false_iff_ne]; exact h2
      by_cases h3 : k = 3
      · subst h3
        have HT := Lib.hid (fun w1 (h : Below W.heap.size W w1) => refTrimmed vl vp vc 4611686018427387903 w1 (HI.out.grown h) (by omega))
        have hb : WireMath.bytes ⟨3, n, nats s, b, vl⟩ = if WireMath.trimmed vl WireMath.top then some (WireMath.vecBytes vl) else none := by
          unfold WireMath.bytes
          rw [if_neg (show ¬ (3 : Int) = 1 by decide), if_neg (show ¬ (3 : Int) = 2 by decide), if_pos rfl]
        rw [hb]
        have htop : (4611686018427387903 : Int) = (WireMath.top : Nat) := rfl
        rw [htop] at HT
        clear hb htop
        cases htr : WireMath.trimmed vl WireMath.top with
        | false =>
          rw [htr] at HT
          rw [if_neg (by decide), bytesValue_none]
          clear htr
          go_enter Tryz.func55, Tryz.ntmps55
          go_wp2_with fail
          rw [← HW.out, ← HB.out]
          refine (HT.out _ (Below.refl _ _)).mono ?_
          rintro e w4 ⟨rfl, rfl⟩
          go_wp2
          go_ret2
          exact ⟨rfl, HBW.out⟩
        | true =>
          rw [htr] at HT
          rw [if_pos rfl, bytesValue_some]
          obtain ⟨N, hN⟩ : ∃ N, N = vl.length := ⟨_, rfl⟩
          have hl16 : N ≤ 16 := by
            unfold WireMath.trimmed at htr
            simp only [Bool.and_eq_true, decide_eq_true_eq] at htr
            omega
          have HP := Lib.hid (show ∀ z ∈ vl, 0 ≤ z ∧ z ≤ 4611686018427387903 from fun z hz => by
            unfold WireMath.trimmed at htr
            simp only [Bool.and_eq_true, List.all_eq_true, decide_eq_true_eq] at htr
            exact htr.1.2 z hz)
          have HNm := Lib.hid (fun (m : Nat) w (h : m ≤ 4611686018427387903) => refNumber m w (by omega))
          have HNN := Lib.hid hN
          rw [← hN] at HT
          rw [← hN] at c4
          clear htr
          go_enter Tryz.func55, Tryz.ntmps55
          go_wp2_with fail
          rw [← HW.out, ← HB.out]
          rw [← hN]
          clear hN
          refine (HT.out _ (Below.refl _ _)).mono ?_
          rintro e w4 ⟨rfl, rfl⟩
          go_wp2_with fail
          refine (HNm.out N _ (by omega)).mono ?_
          rintro e w5 ⟨rfl, hb5⟩
          obtain ⟨S0, hS0⟩ : ∃ S0, S0 = txt (WireMath.num N) := ⟨_, rfl⟩
          rw [← hS0]
          have HS0 := Lib.hid hS0
          have HB5 := Lib.hid hb5
          have HNl := Lib.hid (WireMath.num_len N)
          clear hS0 hb5
          go_wp2_with fail
          clear HT HNl c0 c1 c2 c3
          go_loopg [4, 5] N (fun gh s4 s5 wx => ∃ (i : Nat) (S : ByteArray), i + gh = N ∧ s4 = .string S ∧ s5 = .int .i64 (i : Int) ∧ Hid (S = vecUpTo N vl i) ∧ Below w4.heap.size w4 wx)
          case atStart => exact ⟨0, _, by omega, rfl, by go_num, Lib.hid (by rw [HS0.out, vecUpTo_zero]), HB5.out⟩
          case round =>
            obtain ⟨i, S, hi, rfl, rfl, HS, hbr⟩ := hrel
            by_cases hiN : i < N
            · have t2 : decide ((i : Int) < (N : Int)) = true := decide_eq_true (by omega)
              have t2' : decide (i < N) = true := decide_eq_true hiN
              have hlt : i < vl.length := by rw [← HNN.out]; exact hiN
              obtain ⟨z, hz⟩ : ∃ z, vl[i]? = some z := ⟨_, List.getElem?_eq_getElem hlt⟩
              obtain ⟨h0, htop⟩ := HP.out z (List.mem_of_getElem? hz)
              obtain ⟨m, rfl⟩ : ∃ m : Nat, z = (m : Int) := ⟨z.toNat, by omega⟩
              obtain ⟨hr, b', off, rfl, hc⟩ := HI.out.grown hbr i _ hz
              have c4' : wr.cell? ⟨B, 4, none⟩ = some (.slice (some ⟨b', off, none⟩) N vc) := (hbr.cell (p := ⟨B, 4, none⟩) hBlt).trans c4
              have HR := HNm.out m wr (by omega)
              obtain ⟨T, hT⟩ : ∃ T, T = txt (WireMath.num m) := ⟨_, rfl⟩
              rw [← hT] at HR
              obtain ⟨U, hU⟩ : ∃ U, S ++ T = U := ⟨_, rfl⟩
              have HS' := Lib.hid (show U = vecUpTo N vl (i + 1) by rw [← hU, HS.out, hT, vecUpTo_step hz])
              have f1 : ¬ 9223372036854775807 < S.size + T.size := by
                have g1 := vecUpTo_len N vl i
                have g2 := WireMath.num_len m
                rw [HS.out, hT, txt_len]
                omega
              have HR := Lib.hid HR
              have HBr := Lib.hid hbr
              have c4 := c4'
              clear hz hlt hT HS
              go_wp2_with (go_at_call 69; refine HR.out.mono ?_; rintro e w6 ⟨rfl, hb6⟩)
              go_roundg (N - (i + 1))
              case measure => omega
              case rel => exact ⟨i + 1, U, by omega, rfl, by go_num, HS', HBr.out.trans (hb6.mono HBr.out.size)⟩
            · obtain rfl : i = N := by omega
              have t2' : decide (i < i) = false := decide_eq_false (by omega)
              have c4' : wr.cell? ⟨B, 4, none⟩ = some (.slice vp i vc) := (hbr.cell (p := ⟨B, 4, none⟩) hBlt).trans c4
              have HF := Lib.hid (show S = txt (WireMath.vecBytes vl) by rw [HS.out, ← vecUpTo_all, ← HNN.out])
              have HBr := Lib.hid hbr
              have c4 := c4'
              clear c4' hbr HS
              go_wp2
              go_ret2
              rw [HF.out]
              exact ⟨rfl, HBW.out.trans (HBr.out.mono HBW.out.size)⟩
      · have e3 : (k == 3) = false := by rw [beq_eq_false_iff_ne]; exact h3
        have hb : WireMath.bytes ⟨k, n, nats s, b, vl⟩ = if 0 ≤ n ∧ n ≤ WireMath.top then some (WireMath.num n.toNat) else none := by
          unfold WireMath.bytes
          rw [if_neg h1, if_neg h2, if_neg h3]
        rw [hb]
        by_cases hn : 0 ≤ n ∧ n ≤ WireMath.top
        · rw [if_pos hn, bytesValue_some]
          unfold WireMath.top at hn
          obtain ⟨m, rfl⟩ : ∃ m : Nat, n = (m : Int) := ⟨n.toNat, by omega⟩
          have HN := Lib.hid (fun w => refNumber m w (by omega))
          have t1 : decide ((m : Int) < 0) = false := decide_eq_false (by omega)
          have t2 : decide ((4611686018427387903 : Int) < (m : Int)) = false := decide_eq_false (by omega)
          have t3 : decide (4611686018427387903 < m) = false := decide_eq_false (by omega)
          rw [Int.toNat_natCast]
          clear hb hn
          go_enter Tryz.func55, Tryz.ntmps55
          go_wp2_with fail
          rw [← HW.out, ← HB.out]
          refine (HN.out _).mono ?_
          rintro e w4 ⟨rfl, hb4⟩
          go_wp2
          go_ret2
          exact ⟨rfl, HBW.out.trans (hb4.mono HBW.out.size)⟩
        · rw [if_neg hn, bytesValue_none]
          unfold WireMath.top at hn
          clear hb
          go_enter Tryz.func55, Tryz.ntmps55
          by_cases hneg : n < 0
          · have t1 : decide (n < 0) = true := decide_eq_true hneg
            go_wp2
            go_ret2
            rw [← HW.out]
            exact ⟨rfl, HBW.out⟩
          · have t1 : decide (n < 0) = false := decide_eq_false hneg
            have t2 : decide (4611686018427387903 < n) = true := decide_eq_true (by omega)
            go_wp2
            go_ret2
            rw [← HW.out]
            exact ⟨rfl, HBW.out⟩
end Go.Proofs.YtajkldmpllphjaaGreatDoor
namespace Go.Proofs.YtajkldmpllphjaaGreatDoor
open Go.RowKit TextNat

/-- Things in a row from a block's first cell on: five cells each, their vectors in memory. -/
def ItemsAt (w : World) (b : Nat) (xs : List Item) : Prop := ∀ (i : Nat) (x : Item), xs[i]? = some x →
  w.cell? ⟨b, i * 5, none⟩ = some (.int .i64 x.k) ∧ w.cell? ⟨b, i * 5 + 1, none⟩ = some (.int .i64 x.n) ∧ w.cell? ⟨b, i * 5 + 2, none⟩ = some (.string x.s) ∧ w.cell? ⟨b, i * 5 + 3, none⟩ = some (.bool x.b) ∧
  w.cell? ⟨b, i * 5 + 4, none⟩ = some (.slice x.vp x.vl.length x.vc) ∧ Ints w x.vp x.vl
theorem ItemsAt.grown {w w' : World} {b : Nat} {xs : List Item} (h : ItemsAt w b xs) (hlt : b < w.heap.size) (hb : Below w.heap.size w w') : ItemsAt w' b xs := fun i x hx => by
  obtain ⟨h0, h1, h2, h3, h4, h5⟩ := h i x hx
  exact ⟨(hb.cell (p := ⟨b, _, none⟩) hlt).trans h0, (hb.cell (p := ⟨b, _, none⟩) hlt).trans h1, (hb.cell (p := ⟨b, _, none⟩) hlt).trans h2, (hb.cell (p := ⟨b, _, none⟩) hlt).trans h3, (hb.cell (p := ⟨b, _, none⟩) hlt).trans h4, h5.grown hb⟩
/-- One more thing after things that could all be put. -/
theorem written_take {xs : List Item} {i : Nat} {x : Item} (h : xs[i]? = some x) (D : List Nat) (hD : WireMath.written ((xs.take i).map Item.thing) = ⟨D, none⟩) :
    WireMath.written ((xs.take (i + 1)).map Item.thing) = WireMath.put ⟨D, none⟩ x.thing := by
  unfold WireMath.written at *
  rw [List.take_add_one, h]
  simp only [Option.toList, List.map_append, List.map_cons, List.map_nil, List.foldl_append, List.foldl_cons, List.foldl_nil, hD]
/-- A fault, once found, stays. -/
theorem written_stays {xs : List Item} {i : Nat} {D : List Nat} {q : Nat × Nat} (h : WireMath.written ((xs.take i).map Item.thing) = ⟨D, some q⟩) : WireMath.written (xs.map Item.thing) = ⟨D, some q⟩ := by
  have e : xs.map Item.thing = (xs.take i).map Item.thing ++ (xs.drop i).map Item.thing := by rw [← List.map_append, List.take_append_drop]
  unfold WireMath.written at *
  rw [e, List.foldl_append, h]
  exact WireMath.put_stays _ q rfl _

theorem ownsRow_shape {w : World} {base : Nat} {e : TypeId} {v : Value} {n : Nat} {xs : List Value} (h : w.ownsRow base e 1 v n xs) : ∃ p c, v = .slice p n c := by
  rcases h.2 with ⟨h, h0⟩ | ⟨g, cap, cur, h, _⟩
  · exact ⟨none, 0, by rw [h, h0]⟩
  · exact ⟨_, cap, h⟩
theorem ownsRow_keeps {w w' : World} {base k : Nat} {e : TypeId} {v : Value} {n : Nat} {xs : List Value} (h : w.ownsRow base e k v n xs) (hb : Below w.heap.size w w') : w'.ownsRow base e k v n xs := by
  refine ⟨h.1, h.2.imp id ?_⟩
  rintro ⟨g, cap, cur, h1, h2, h3, h4⟩
  exact ⟨g, cap, cur, h1, h2, (hb.block g (Array.getElem?_eq_some_iff.1 h3).1).trans h3, h4⟩
theorem strCells_txt (L : List Nat) : Lib.strCells (txt L) = L.map fun b => Value.int .u8 ((UInt8.ofNat b).toNat : Int) := by simp [Lib.strCells, txt]
theorem strCells_more (L l : List Nat) : Lib.strCells (txt L) ++ Lib.strCells (txt l) = Lib.strCells (txt (L ++ l)) := by rw [strCells_txt, strCells_txt, strCells_txt, List.map_append]
theorem text_own {w : World} {base g cap : Nat} {e : TypeId} {L : List Nat} (h : w.ownsRow base e 1 (.slice (some ⟨g, 0, none⟩) L.length cap) L.length (Lib.strCells (txt L))) :
    (convert 59 9 (.slice (some ⟨g, 0, none⟩) L.length cap)).run Tryz.prog w = .ok (.string (txt L)) w := by
  have h2 := run_convert_bytes_back (P := Tryz.prog) w 59 9 5 ⟨g, 0, none⟩ cap (L.map UInt8.ofNat) Tryz.underlying59 Tryz.underlying5 Tryz.underlying9 (fun j hj => by
    have hj' : j < L.length := by simpa using hj
    rw [WideShapes.add_plain, Nat.zero_add, h.cellAt j (by omega), strCells_txt, List.getElem?_map, List.getElem?_eq_getElem hj']
    simp)
  rw [List.length_map] at h2
  exact h2
def putValue (p : WireMath.Put) : Value := match p.bad with
  | none => .tuple #[.string (txt p.out), .int .i64 0, .int .i64 0]
  | some (c, at') => .tuple #[.string ⟨#[]⟩, .int .i64 (c : Int), .int .i64 (at' : Int)]

set_option maxRecDepth 100000 in
set_option maxHeartbeats 4000000 in
theorem refWritten (xs : List Item) (b : Nat) (cap : Nat) (w : World) (hI : ItemsAt w b xs) (hlt : b < w.heap.size) (hs : ∀ x ∈ xs, x.s.size ≤ 100000 ∧ x.vl.length ≤ 1000000) (hl : xs.length ≤ 1000) :
    Calls Tryz.prog 36 #[.slice (some ⟨b, 0, none⟩) xs.length cap] w fun e w' => e = .returned (putValue (WireMath.written (xs.map Item.thing))) ∧ Below w.heap.size w w' := by
  obtain ⟨ib, hib, hz0, hz1, hz2⟩ := info_parts info_byte
  obtain ⟨N, hN⟩ : ∃ N, N = xs.length := ⟨_, rfl⟩
  have hlN : N ≤ 1000 := by omega
  rw [← hN]
  have HI := Lib.hid hI
  have HS := Lib.hid hs
  clear hI hs
  go_enter Tryz.func36, Tryz.ntmps36
  go_wp2_with fail
  have HNN := Lib.hid hN
  clear hN
  go_loopg [5, 6] N (fun gh s5 s6 wx => ∃ (i : Nat) (L : List Nat), i + gh = N ∧ s6 = .int .i64 (i : Int) ∧ L.length ≤ 65536 ∧ Hid (wx.ownsRow w.heap.size 5 1 s5 L.length (Lib.strCells (txt L))) ∧ Hid (s5 ≠ .slice none 0 0) ∧ Hid (WireMath.written ((xs.take i).map Item.thing) = ⟨L, none⟩) ∧ Below w.heap.size w wx)
  case atStart => exact ⟨0, [], by omega, by go_num, by simp, Lib.hid (World.ownsRow_made w #[] 0 (Nat.le_refl _) (by unfold maxLen; omega) rfl), Lib.hid (by intro h; cases h), Lib.hid rfl, (Below.refl _ _).alloc (Nat.le_refl _) _⟩
  case round =>
    obtain ⟨i, L, hi, rfl, hL, HO, HNe, HWr, hbr⟩ := hrel
    have HB := Lib.hid hbr
    obtain ⟨p5, c5, rfl⟩ := ownsRow_shape HO.out
    by_cases hiN : i < N
    · have t2 : decide ((i : Int) < (N : Int)) = true := decide_eq_true (by omega)
      have t2' : decide (i < N) = true := decide_eq_true hiN
      obtain ⟨x, hx⟩ : ∃ x, xs[i]? = some x := ⟨_, List.getElem?_eq_getElem (by rw [← HNN.out]; exact hiN)⟩
      obtain ⟨c0, c1, c2, c3, c4, hv⟩ := (HI.out.grown hlt hbr) i x hx
      have hsx := HS.out x (List.mem_of_getElem? hx)
      have HBy := refBytes x wr hv hsx.1 hsx.2
      have HX := written_take hx L HWr.out
      have hbv : x.val = .agg #[.int .i64 x.k, .int .i64 x.n, .string x.s, .bool x.b, .slice x.vp x.vl.length x.vc] := rfl
      rw [hbv] at HBy
      obtain ⟨o, ho⟩ : ∃ o, o = WireMath.bytes x.thing := ⟨_, rfl⟩
      rw [← ho] at HBy
      have HBy := Lib.hid HBy
      have HX := Lib.hid HX
      clear hbr hv hsx hbv
      obtain ⟨k, n, s, fb, vp, vl, vc⟩ := x
      simp only at c0 c1 c2 c3 c4 HBy
      cases o with
      | none =>
        rw [bytesValue_none] at HBy
        have HW := Lib.hid (show WireMath.written (xs.map Item.thing) = ⟨L, some (1, L.length)⟩ from written_stays (i := i + 1) (by rw [HX.out]; unfold WireMath.put; simp only [← ho]))
        clear ho HX hx
        go_wp2_with fail
        refine HBy.out.mono ?_
        rintro e w2 ⟨rfl, hb2⟩
        go_wp2_with fail
        go_ret3
        rw [HW.out]
        exact ⟨rfl, HB.out.trans (hb2.mono HB.out.size)⟩
      | some l =>
        rw [bytesValue_some] at HBy
        obtain ⟨T, hT⟩ : ∃ T, T = txt l := ⟨_, rfl⟩
        have hTs : T.size = l.length := by rw [hT, txt_len]
        rw [← hT] at HBy
        by_cases hbig : 65536 < L.length + l.length
        · have HW := Lib.hid (show WireMath.written (xs.map Item.thing) = ⟨L, some (3, L.length)⟩ from written_stays (i := i + 1) (by rw [HX.out]; unfold WireMath.put; simp only [← ho, if_pos hbig]))
          have t3 : decide ((65536 : Int) - (L.length : Int) < (l.length : Int)) = true := decide_eq_true (by omega)
          clear ho HX hx hT
          go_wp2_with fail
          refine HBy.out.mono ?_
          rintro e w2 ⟨rfl, hb2⟩
          go_wp2_with fail
          go_ret3
          rw [HW.out]
          exact ⟨rfl, HB.out.trans (hb2.mono HB.out.size)⟩
        · have HW := Lib.hid (show WireMath.written ((xs.take (i + 1)).map Item.thing) = ⟨L ++ l, none⟩ by rw [HX.out]; unfold WireMath.put; simp only [← ho, if_neg hbig])
          have t3 : decide ((65536 : Int) - (L.length : Int) < (l.length : Int)) = false := decide_eq_false (by omega)
          have HT := Lib.hid hT
          have HLl := Lib.hid (show (L ++ l).length ≤ 65536 by rw [List.length_append]; omega)
          have HTs := Lib.hid hTs
          have HE := Lib.hid (strCells_more L l)
          rw [← hT] at HE
          clear ho HX hx hT
          go_wp2_with fail
          refine HBy.out.mono ?_
          rintro e w2 ⟨rfl, hb2⟩
          have hO2 := ownsRow_keeps HO.out hb2
          have hB2 : Below w.heap.size w w2 := HB.out.trans (hb2.mono HB.out.size)
          go_wp2_with (at_builtin; refine Lib.wpList_append_own_string _ rfl _ _ 59 9 rfl w.heap.size 5 ib Tryz.underlying59 Tryz.underlying9 hib hz0 hz1 hz2 _ _ _ rfl hO2 T rfl (by unfold maxLen; omega) (by omega) hB2.size ?_; intro v3 w3 hown3 hgrow3 hnil3)
          go_roundg (N - (i + 1))
          case measure => omega
          case rel => exact ⟨i + 1, L ++ l, by omega, by go_num, HLl.out, Lib.hid (by rw [← HE.out, List.length_append, ← HTs.out]; exact hown3), Lib.hid (fun h => HNe.out (hnil3.1 h).1), HW, hB2.grown hgrow3 hB2.size (fun k hk => (hO2.lt k hk).1)⟩
    · obtain rfl : i = N := by omega
      have t2' : decide (i < i) = false := decide_eq_false (by omega)
      have HW := Lib.hid (show WireMath.written (xs.map Item.thing) = ⟨L, none⟩ by rw [← HWr.out, HNN.out, List.take_length])
      obtain ⟨g, hg⟩ : ∃ g, p5 = some ⟨g, 0, none⟩ := by
        rcases HO.out.2 with ⟨h, _⟩ | ⟨g, cap', cur, h, _⟩
        · exact absurd h HNe.out
        · cases h
          exact ⟨g, rfl⟩
      subst hg
      have hcv := text_own HO.out
      clear hbr HWr
      go_wp2
      go_ret3
      rw [HW.out]
      exact ⟨rfl, HB.out⟩
end Go.Proofs.YtajkldmpllphjaaGreatDoor
namespace Go.Proofs.YtajkldmpllphjaaGreatDoor
open Go.RowKit TextNat

def Item.cells (x : Item) : List Value := [.int .i64 x.k, .int .i64 x.n, .string x.s, .bool x.b, .slice x.vp x.vl.length x.vc]
theorem cells_at {xs : List Item} : ∀ {i : Nat} {x : Item}, xs[i]? = some x → ∀ j, j < 5 → (xs.flatMap Item.cells)[i * 5 + j]? = x.cells[j]? := by
  induction xs with
  | nil => intro i x h; simp at h
  | cons y r ih =>
    intro i x h j hj
    have hy : y.cells.length = 5 := rfl
    rw [List.flatMap_cons]
    cases i with
    | zero =>
      obtain rfl : y = x := by simpa using h
      rw [List.getElem?_append_left (by omega), Nat.zero_mul, Nat.zero_add]
    | succ i =>
      rw [List.getElem?_append_right (by omega), show (i + 1) * 5 + j - y.cells.length = i * 5 + j by omega]
      exact ih (by simpa using h) j hj
theorem itemsAt_of {w : World} {b : Nat} {xs : List Item} {T : TypeId} (h : w.heap[b]? = some (.cells (xs.flatMap Item.cells).toArray T (0, 0))) (hv : ∀ x ∈ xs, Ints w x.vp x.vl) : ItemsAt w b xs := by
  intro i x hx
  have hc : ∀ j, j < 5 → w.cell? ⟨b, i * 5 + j, none⟩ = x.cells[j]? := fun j hj => by
    rw [cell_of_row w b _ _ T (0, 0) h, ← cells_at hx j hj]
    simp
  exact ⟨hc 0 (by omega), hc 1 (by omega), hc 2 (by omega), hc 3 (by omega), hc 4 (by omega), hv x (List.mem_of_getElem? hx)⟩
theorem heap_two (w : World) (a b : Obj) : ((w.alloc a).alloc b).heap[w.heap.size + 1]? = some b := by
  have h := heap_alloc_new (w.alloc a) b
  simpa using h
theorem below_two (w : World) (a b : Obj) : Below w.heap.size w ((w.alloc a).alloc b) := ((Below.refl _ _).alloc (Nat.le_refl _) _).alloc (by simp) _
theorem ints_none (w : World) : Ints w none [] := fun i z h => by simp at h

end Go.Proofs.YtajkldmpllphjaaGreatDoor
namespace WireMath

theorem written_on : ∀ (l : List Thing) (bs : List (List Nat)) (p : Put), p.bad = none → l.map bytes = bs.map some → p.out.length + bs.flatten.length ≤ 65536 → l.foldl put p = ⟨p.out ++ bs.flatten, none⟩
  | [], [], p, h, _, _ => by obtain ⟨o, b⟩ := p; cases h; simp
  | [], b :: r, _, _, h, _ => by simp at h
  | x :: l, [], _, _, h, _ => by simp at h
  | x :: l, b :: r, p, h, hm, hl => by
    simp only [List.map_cons, List.cons.injEq] at hm
    simp only [List.flatten_cons, List.length_append] at hl
    have hp : put p x = ⟨p.out ++ b, none⟩ := by
      unfold put
      rw [h, hm.1]
      simp only
      rw [if_neg (by omega)]
    rw [List.foldl_cons, hp, written_on l r ⟨p.out ++ b, none⟩ rfl hm.2 (by simp only [List.length_append]; omega)]
    simp
theorem written_all {l : List Thing} {bs : List (List Nat)} (h : l.map bytes = bs.map some) (hl : bs.flatten.length ≤ 65536) : written l = ⟨bs.flatten, none⟩ := by
  exact written_on l bs ⟨[], none⟩ rfl h (by show 0 + _ ≤ _; omega)
theorem trimmed_top {v : List Int} (h : trimmed v big = true) : trimmed v top = true := by
  unfold trimmed big at h
  unfold trimmed top
  simp only [Bool.and_eq_true, decide_eq_true_eq, List.all_eq_true] at h ⊢
  refine ⟨⟨h.1.1, fun z hz => ⟨(h.1.2 z hz).1, ?_⟩⟩, h.2⟩
  have := (h.1.2 z hz).2
  omega
theorem bytes_k0 {x : Thing} (h : x.k = 0) (h0 : 0 ≤ x.n) (h1 : x.n ≤ top) : bytes x = some (num x.n.toNat) := by
  unfold bytes
  rw [h, if_neg (by decide), if_neg (by decide), if_neg (by decide), if_pos ⟨h0, h1⟩]
theorem bytes_k1 {x : Thing} (h : x.k = 1) : bytes x = some (textBytes x.s) := by
  unfold bytes
  rw [h, if_pos rfl]
  rfl
theorem bytes_k2 {x : Thing} (h : x.k = 2) : bytes x = some (flagBytes x.b) := by
  unfold bytes
  rw [h, if_neg (by decide), if_pos rfl]
  rfl
theorem bytes_k3 {x : Thing} (h : x.k = 3) (hv : trimmed x.v top = true) : bytes x = some (vecBytes x.v) := by
  unfold bytes
  rw [h, if_neg (by decide), if_neg (by decide), if_pos rfl, if_pos hv]
end WireMath
