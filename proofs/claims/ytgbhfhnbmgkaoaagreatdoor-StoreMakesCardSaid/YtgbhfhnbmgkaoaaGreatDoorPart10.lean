/-
  Texts of one claim, merged.
  StoreRef6: The document's own Keys and Lives of chapter 16. The conditions: the rows lie in memory; at most 50,000.
  StoreRef7: The document's own Same of chapters 1 (texts) and 16 (rows). The conditions: what is compared lies in memory.
  RegMerge: The document's own Merge of chapter 15. The condition: at most 1000 cells.
-/
import Derived.Test.YtgbhfhnbmgkaoaaGreatDoorPart09
import Derived.BigQuiet
import Derived.Test.YtgbhfhnbmgkaoaaGreatDoorPart07
import Derived.Test.YtgbhfhnbmgkaoaaGreatDoorPart06
namespace Go.Proofs.YtgbhfhnbmgkaoaaGreatDoor
open Go.RowKit TextNat RegMath

theorem info_text16 : (Tryz.prog.info? 9).map (fun i => (i.zero, i.size, i.bytes)) = some (some (.string ⟨#[]⟩), 1, 16) := by kernel_rfl
/-- Texts that stand from the address pp on. -/
def TextsAt (w : World) (pp : Option Addr) (ts : List ByteArray) : Prop := ∀ (i : Nat) (x : ByteArray), ts[i]? = some x → ∃ b off, pp = some ⟨b, off, none⟩ ∧ w.cell? ⟨b, off + i, none⟩ = some (.string x)
theorem TextsAt.grown {w w' : World} {pp : Option Addr} {ts : List ByteArray} (h : TextsAt w pp ts) (hb : Below w.heap.size w w') : TextsAt w' pp ts := fun i a ha => by
  obtain ⟨b, off, hp, hc⟩ := h i a ha
  exact ⟨b, off, hp, (hb.cell (p := ⟨b, off + i, none⟩) (World.block_lt_of_cell? w _ hc)).trans hc⟩
/-- A row of one's own that holds these texts. -/
def OwnT16 (w : World) (B : Nat) (v : Value) (A : List ByteArray) : Prop := w.ownsRow B 9 1 v A.length (A.map Value.string)
theorem OwnT16.nil (w : World) (B : Nat) : OwnT16 w B (.slice none 0 0) [] := World.ownsRow_nil w B _ 1
theorem OwnT16.shape {w : World} {B : Nat} {v : Value} {A : List ByteArray} (h : OwnT16 w B v A) : ∃ p c, v = .slice p A.length c ∧ A.length ≤ c ∧ c ≤ 9223372036854775807 := by
  rcases h.2 with ⟨rfl, h0⟩ | ⟨g, cap, cur, rfl, _, _, h1, h2, _⟩
  · exact ⟨none, 0, by rw [h0], by omega, by omega⟩
  · exact ⟨_, _, rfl, h1, by unfold maxLen at h2; omega⟩
theorem OwnT16.below {w w' : World} {B : Nat} {v : Value} {A : List ByteArray} (h : OwnT16 w B v A) (hb : Below w.heap.size w w') : OwnT16 w' B v A := by
  refine ⟨h.1, ?_⟩
  rcases h.2 with h2 | ⟨g, cap, cur, h3, h4, h5, h6⟩
  · exact .inl h2
  · exact .inr ⟨g, cap, cur, h3, h4, (hb.block g (Array.getElem?_eq_some_iff.1 h5).1).trans h5, h6⟩
theorem OwnT16.texts {w : World} {B n c : Nat} {p : Option Addr} {A : List ByteArray} (h : OwnT16 w B (.slice p n c) A) : TextsAt w p A := fun i a ha => by
  have hi := (List.getElem?_eq_some_iff.1 ha).1
  rcases h.2 with ⟨_, h2⟩ | ⟨g, cap, cur, h3, h4, h5, h6⟩
  · omega
  · have hv : Value.slice p n c = .slice (some ⟨g, 0, none⟩) A.length cap := h3
    obtain ⟨rfl, rfl, rfl⟩ : p = some ⟨g, 0, none⟩ ∧ n = A.length ∧ c = cap := by simpa using hv
    have h' : w.ownsRow B 9 1 (.slice (some ⟨g, 0, none⟩) A.length c) A.length (A.map Value.string) := h
    refine ⟨g, 0, rfl, ?_⟩
    rw [Nat.zero_add, h'.cellAt _ (by omega), List.getElem?_map, ha]
    rfl
theorem ownT16_made {w : World} {B g : Nat} (hg : w.heap[g]? = some (.cells #[] 9 (0, 0))) (hB : B ≤ g) : OwnT16 w B (.slice (some ⟨g, 0, none⟩) 0 0) [] :=
  ⟨rfl, .inr ⟨g, 0, #[], rfl, hB, hg, Nat.le_refl _, by unfold maxLen; omega, rfl, rfl⟩⟩
/-- append of one text onto a row of one's own, as one operation. -/
theorem app_text16 {ops : Array Oper} {rest : List Oper} {o : Oper} {ac : Act} {Q : Exit → Act → World → Prop} {w : World} (hgd : o.guard = none) (s x : Operand)
    (ho : o.op = .call { callee := .builtin .append, args := #[s, x], argTypes := #[80, 80] })
    (B : Nat) (v : Value) (A : List ByteArray) (a : ByteArray) (hs : ac.eval s = v) (hown : OwnT16 w B v A) (g c : Nat) (hx : ac.eval x = .slice (some ⟨g, 0, none⟩) 1 c)
    (hnews : w.cell? ⟨g, 0, none⟩ = some (.string a)) (hz : A.length ≤ 100000) (hB : B ≤ w.heap.size)
    (h : ∀ v' w', OwnT16 w' B v' (A ++ [a]) → Below B w w' → wpList Tryz.prog ops Q rest (ac.put o.dst v') w') : wpList Tryz.prog ops Q (o :: rest) ac w := by
  obtain ⟨ii, hii, hi0, hi1, hi2⟩ := info_parts info_text16
  refine wpList_keep hgd s x 80 ho B 9 ii _ 1 16 Tryz.underlying80 hii hi0 hi1 hi2 rfl (by decide) v A.length (A.map Value.string) hs hown (some ⟨g, 0, none⟩) 1 c [.string a] hx rfl (fun j u hu => ?_) (fun u hu => ?_) (by unfold maxLen; omega) (by omega) hB ?_
  · have hj : j = 0 := by have := (List.getElem?_eq_some_iff.1 hu).1; simp at this; exact this
    subst hj
    obtain rfl : Value.string a = u := by simpa using hu
    exact ⟨_, rfl, by simpa [Addr.add] using hnews⟩
  · rw [List.mem_singleton.1 hu]
    rfl
  · intro v' w' h1 h2 h3 _
    refine h v' w' ?_ ((Below.refl B w).grown h2 hB fun q hq => (World.ownsRow.lt hown q hq).1)
    unfold OwnT16
    rw [List.length_append, List.map_append]
    exact h1
theorem take_map {p : RowV → Bool} {f : RowV → ByteArray} {xs : List RowV} {i : Nat} {x : RowV} (h : xs[i]? = some x) : ((xs.take (i + 1)).filter p).map f = ((xs.take i).filter p).map f ++ (if p x = true then [f x] else []) := by
  rw [take_filter h, List.map_append]
  congr 1
  split <;> rfl
def keyV (s : ByteArray) (x : RowV) : Bool := decide (x.session = s) && (decide (0 < x.key.size) && visV x.cell)
def keysV (xs : List RowV) (s : ByteArray) : List ByteArray := (xs.filter (keyV s)).map RowV.key
def liveV (x : RowV) : Bool := decide (x.key.size = 0) && visV x.cell
def livesV (xs : List RowV) : List ByteArray := (xs.filter liveV).map RowV.session
theorem nats_none (s : ByteArray) : (nats s).isEmpty = decide (s.size = 0) := by
  rw [Bool.eq_iff_iff, List.isEmpty_iff, decide_eq_true_eq, ← nats_len]
  exact ⟨fun h => by rw [h]; rfl, fun h => List.eq_nil_of_length_eq_zero h⟩
theorem keys_r (xs : List RowV) (s : ByteArray) : StoreMath.keys (xs.map RowV.r) (nats s) = (keysV xs s).map nats := by
  unfold StoreMath.keys keysV
  rw [List.filter_map, List.map_map, List.map_map]
  rw [show xs.filter ((fun r : StoreMath.Row => r.k.1 == nats s && (!r.k.2.isEmpty && StoreMath.visible r.c)) ∘ RowV.r) = xs.filter (keyV s) from List.filter_congr fun x _ => by
    show (nats x.session == nats s && (!(nats x.key).isEmpty && StoreMath.visible x.cell.c)) = keyV s x
    unfold keyV
    rw [visV_c, nats_none]
    congr 1
    · rw [Bool.eq_iff_iff, beq_iff_eq, decide_eq_true_eq]
      exact ⟨fun e => by rw [← txt_nats x.session, e, txt_nats], fun e => by rw [e]⟩
    · congr 1
      by_cases h0 : x.key.size = 0
      · rw [decide_eq_true h0, decide_eq_false (by omega)]
        rfl
      · rw [decide_eq_false h0, decide_eq_true (by omega)]
        rfl]
  rfl
theorem lives_r (xs : List RowV) : StoreMath.lives (xs.map RowV.r) = (livesV xs).map nats := by
  unfold StoreMath.lives livesV
  rw [List.filter_map, List.map_map, List.map_map]
  rw [show xs.filter ((fun r : StoreMath.Row => r.k.2.isEmpty && StoreMath.visible r.c) ∘ RowV.r) = xs.filter liveV from List.filter_congr fun x _ => by
    show ((nats x.key).isEmpty && StoreMath.visible x.cell.c) = liveV x
    unfold liveV
    rw [visV_c, nats_none]]
  rfl
set_option maxRecDepth 100000 in
set_option maxHeartbeats 4000000 in
theorem refKeys16 (b : Nat) (xs : List RowV) (s : ByteArray) (w : World) (h : RefSto w b xs) (hn : xs.length ≤ 50000) :
    Calls Tryz.prog 32 #[.pointer (some ⟨b, 0, none⟩), .string s] w fun e w' => (∃ v, e = .returned v ∧ OwnT16 w' w.heap.size v (keysV xs s)) ∧ Below w.heap.size w w' := by
  obtain ⟨N, hN⟩ : ∃ N, N = xs.length := ⟨_, rfl⟩
  have HN := Lib.hid hN
  obtain ⟨W, hW⟩ : ∃ W, W = w.alloc (.cells #[] 9) := ⟨_, rfl⟩
  have HB0 := Lib.hid (show Below w.heap.size w W by rw [hW]; exact (Below.refl _ _).alloc (Nat.le_refl _) _)
  have HO0 := Lib.hid (show OwnT16 W w.heap.size (.slice (some ⟨w.heap.size, 0, none⟩) 0 0) [] from ownT16_made (by rw [hW]; exact heap_alloc_new w _) (Nat.le_refl _))
  obtain ⟨pp, c, h1, h2, h3, h4⟩ := h
  have HL := Lib.hid h1
  have HI := Lib.hid h4
  have HC := Lib.hid (And.intro h2 h3)
  have HW := Lib.hid hW
  rw [← hN] at hn HL
  clear h1 h2 h3 h4 hN hW
  go_enter Tryz.func32, Tryz.ntmps32
  go_wp2_with fail
  rw [← HW.out]
  go_loopg [5, 6] N (fun gh so si wx => ∃ i : Nat, i + gh = N ∧ si = .int .i64 (i : Int) ∧ Hid (OwnT16 wx w.heap.size so (((xs.take i).filter (keyV s)).map RowV.key)) ∧ Hid (Below w.heap.size w wx))
  case atStart => exact ⟨0, by omega, by go_num, Lib.hid HO0.out, Lib.hid HB0.out⟩
  case round =>
    obtain ⟨i, hi, rfl, HO, HB⟩ := hrel
    rename World => W1
    have l1 := HL.out.below HB.out
    have x0 := Lies.cell (i := 0) l1 rfl
    by_cases hlt : i < N
    · have t1 : decide ((i : Int) < (N : Int)) = true := decide_eq_true (by omega)
      have t1' : decide (i < N) = true := decide_eq_true hlt
      have q0 : (i : Int) < (N : Int) := by omega
      obtain ⟨x, hx⟩ : ∃ x, xs[i]? = some x := ⟨_, List.getElem?_eq_getElem (by rw [← HN.out]; exact hlt)⟩
      obtain ⟨b1, o1, rfl⟩ := HI.out.addr (by rw [← HN.out]; omega)
      have HX := Lib.hid hx
      obtain ⟨d0, d1, d2, d3, d4, d5, d6⟩ := (HI.out.grown HB.out).look hx
      have HT := Lib.hid (take_map (p := keyV s) (f := RowV.key) hx)
      have HIn := Lib.hid (And.intro hi hlt)
      have HLn := Lib.hid (show (((xs.take i).filter (keyV s)).map RowV.key).length ≤ 50000 by rw [List.length_map]; exact Nat.le_trans (List.length_filter_le _ _) (by rw [List.length_take]; omega))
      have HVx := Lib.hid (fun w => refVisible15 x.cell w)
      have HAl := Lib.hid (fun (W2 : World) (s : ByteArray) => show Below W2.heap.size W2 (W2.alloc (.cells #[.string s] 9)) from (Below.refl _ _).alloc (Nat.le_refl _) _)
      have HNw := Lib.hid (fun (W2 : World) (s : ByteArray) => show (W2.alloc (.cells #[.string s] 9)).cell? ⟨W2.heap.size, 0, none⟩ = some (.string s) from Lies.cell (i := 0) (Lies.new W2 [.string s] 9) rfl)
      obtain ⟨A, hA⟩ : ∃ A, A = ((xs.take i).filter (keyV s)).map RowV.key := ⟨_, rfl⟩
      rw [← hA] at HO HT HLn
      clear hA
      obtain ⟨p5, c5, hs5, _, _⟩ := HO.out.shape
      subst hs5
      obtain ⟨xs1, xk, ⟨xt, xr, xv, xg, xl⟩⟩ := x
      simp only [RegV.val] at d0 d1 d2 d3 d4 d5 d6 HT HVx
      clear hx hi hlt l1
      by_cases hs : xs1 = s
      · subst hs
        by_cases hk : 0 < xk.size
        · have s1 : decide ((0 : Int) < (xk.size : Int)) = true := decide_eq_true (by omega)
          have s1' : decide (0 < xk.size) = true := decide_eq_true hk
          have hE : keyV xs1 ⟨xs1, xk, ⟨xt, xr, xv, xg, xl⟩⟩ = (true && (true && visV ⟨xt, xr, xv, xg, xl⟩)) := by unfold keyV; simp only; rw [s1']; simp
          cases hvx : visV ⟨xt, xr, xv, xg, xl⟩ with
          | false =>
            rw [show (decide (0 < xt) && !xg) = false from hvx] at HVx
            replace HT := Lib.hid (HT.out.trans (by rw [if_neg (by rw [hE, hvx]; decide), List.append_nil]))
            clear hvx hE hk
            go_wp2_with (go_at_call 51; refine (HVx.out _).mono ?_; rintro e w5 ⟨rfl, hb⟩; have HB5 := Lib.hid (HB.out.trans (hb.mono HB.out.size)); have HO5 := Lib.hid (HO.out.below hb); clear hb)
            go_roundg (N - (i + 1))
            case measure => have := HIn.out; omega
            case rel => exact ⟨i + 1, by have := HIn.out; omega, by go_num, by rw [HT.out]; exact HO5, HB5⟩
          | true =>
            rw [show (decide (0 < xt) && !xg) = true from hvx] at HVx
            replace HT := Lib.hid (HT.out.trans (by rw [if_pos (by rw [hE, hvx]; rfl)]))
            clear hvx hE hk
            go_wp2_with fail
            refine (HVx.out _).mono ?_
            rintro e w5 ⟨rfl, hb⟩
            have HB5 := Lib.hid (HB.out.trans (hb.mono HB.out.size))
            have HO5 := Lib.hid (HO.out.below hb)
            clear hb x0 d0 d1 d2 d3 d4 d5 d6
            have x0 := Lies.cell (i := 0) (HL.out.below HB5.out) rfl
            obtain ⟨d0, d1, d2, d3, d4, d5, d6⟩ := (HI.out.grown HB5.out).look HX.out
            have HBa := Lib.hid (HB5.out.trans ((HAl.out w5 xk).mono HB5.out.size))
            have HOa := Lib.hid (HO5.out.below (HAl.out w5 xk))
            go_wp2_with (at_builtin; refine app_text16 rfl _ _ rfl w.heap.size _ _ xk rfl HOa.out w5.heap.size 1 rfl (HNw.out w5 xk) (by have := HLn.out; omega) HBa.out.size ?_; intro v8 w8 h1 h2; have HO8 := Lib.hid h1; have HB8 := Lib.hid (HBa.out.trans h2); clear h1 h2)
            go_roundg (N - (i + 1))
            case measure => have := HIn.out; omega
            case rel => exact ⟨i + 1, by have := HIn.out; omega, by go_num, by rw [HT.out]; exact HO8, HB8⟩
        · have s1 : decide ((0 : Int) < (xk.size : Int)) = false := decide_eq_false (by omega)
          have s1' : decide (0 < xk.size) = false := decide_eq_false hk
          have hE : keyV xs1 ⟨xs1, xk, ⟨xt, xr, xv, xg, xl⟩⟩ = false := by unfold keyV; simp only; rw [s1']; simp
          replace HT := Lib.hid (HT.out.trans (by rw [if_neg (by rw [hE]; decide), List.append_nil]))
          clear hE hk
          go_wp2
          go_roundg (N - (i + 1))
          case measure => have := HIn.out; omega
          case rel => exact ⟨i + 1, by have := HIn.out; omega, by go_num, by rw [HT.out]; exact HO, HB⟩
      · have k1 := text_list hs
        have k1' : (xs1.toList == s.toList) = false := beq_eq_false_iff_ne.2 k1
        have hE : keyV s ⟨xs1, xk, ⟨xt, xr, xv, xg, xl⟩⟩ = false := by unfold keyV; simp only; rw [decide_eq_false hs]; rfl
        replace HT := Lib.hid (HT.out.trans (by rw [if_neg (by rw [hE]; decide), List.append_nil]))
        clear hE hs
        go_wp2
        go_roundg (N - (i + 1))
        case measure => have := HIn.out; omega
        case rel => exact ⟨i + 1, by have := HIn.out; omega, by go_num, by rw [HT.out]; exact HO, HB⟩
    · have t1 : decide ((i : Int) < (N : Int)) = false := decide_eq_false (by omega)
      have t1' : decide (i < N) = false := decide_eq_false hlt
      have HT := Lib.hid (show ((xs.take i).filter (keyV s)).map RowV.key = keysV xs s by rw [List.take_of_length_le (by rw [← HN.out]; omega)]; rfl)
      rw [HT.out] at HO
      clear hlt hi l1
      go_wp2
      go_ret
      exact ⟨⟨_, rfl, HO.out⟩, HB.out⟩
set_option maxRecDepth 100000 in
set_option maxHeartbeats 4000000 in
theorem refLives16 (b : Nat) (xs : List RowV) (w : World) (h : RefSto w b xs) (hn : xs.length ≤ 50000) :
    Calls Tryz.prog 34 #[.pointer (some ⟨b, 0, none⟩)] w fun e w' => (∃ v, e = .returned v ∧ OwnT16 w' w.heap.size v (livesV xs)) ∧ Below w.heap.size w w' := by
  obtain ⟨N, hN⟩ : ∃ N, N = xs.length := ⟨_, rfl⟩
  have HN := Lib.hid hN
  obtain ⟨W, hW⟩ : ∃ W, W = w.alloc (.cells #[] 9) := ⟨_, rfl⟩
  have HB0 := Lib.hid (show Below w.heap.size w W by rw [hW]; exact (Below.refl _ _).alloc (Nat.le_refl _) _)
  have HO0 := Lib.hid (show OwnT16 W w.heap.size (.slice (some ⟨w.heap.size, 0, none⟩) 0 0) [] from ownT16_made (by rw [hW]; exact heap_alloc_new w _) (Nat.le_refl _))
  obtain ⟨pp, c, h1, h2, h3, h4⟩ := h
  have HL := Lib.hid h1
  have HI := Lib.hid h4
  have HC := Lib.hid (And.intro h2 h3)
  have HW := Lib.hid hW
  rw [← hN] at hn HL
  clear h1 h2 h3 h4 hN hW
  go_enter Tryz.func34, Tryz.ntmps34
  go_wp2_with fail
  rw [← HW.out]
  go_loopg [3, 4] N (fun gh so si wx => ∃ i : Nat, i + gh = N ∧ si = .int .i64 (i : Int) ∧ Hid (OwnT16 wx w.heap.size so (((xs.take i).filter (liveV)).map RowV.session)) ∧ Hid (Below w.heap.size w wx))
  case atStart => exact ⟨0, by omega, by go_num, Lib.hid HO0.out, Lib.hid HB0.out⟩
  case round =>
    obtain ⟨i, hi, rfl, HO, HB⟩ := hrel
    rename World => W1
    have l1 := HL.out.below HB.out
    have x0 := Lies.cell (i := 0) l1 rfl
    by_cases hlt : i < N
    · have t1 : decide ((i : Int) < (N : Int)) = true := decide_eq_true (by omega)
      have t1' : decide (i < N) = true := decide_eq_true hlt
      have q0 : (i : Int) < (N : Int) := by omega
      obtain ⟨x, hx⟩ : ∃ x, xs[i]? = some x := ⟨_, List.getElem?_eq_getElem (by rw [← HN.out]; exact hlt)⟩
      obtain ⟨b1, o1, rfl⟩ := HI.out.addr (by rw [← HN.out]; omega)
      have HX := Lib.hid hx
      obtain ⟨d0, d1, d2, d3, d4, d5, d6⟩ := (HI.out.grown HB.out).look hx
      have HT := Lib.hid (take_map (p := liveV) (f := RowV.session) hx)
      have HIn := Lib.hid (And.intro hi hlt)
      have HLn := Lib.hid (show (((xs.take i).filter (liveV)).map RowV.session).length ≤ 50000 by rw [List.length_map]; exact Nat.le_trans (List.length_filter_le _ _) (by rw [List.length_take]; omega))
      have HVx := Lib.hid (fun w => refVisible15 x.cell w)
      have HAl := Lib.hid (fun (W2 : World) (s : ByteArray) => show Below W2.heap.size W2 (W2.alloc (.cells #[.string s] 9)) from (Below.refl _ _).alloc (Nat.le_refl _) _)
      have HNw := Lib.hid (fun (W2 : World) (s : ByteArray) => show (W2.alloc (.cells #[.string s] 9)).cell? ⟨W2.heap.size, 0, none⟩ = some (.string s) from Lies.cell (i := 0) (Lies.new W2 [.string s] 9) rfl)
      obtain ⟨A, hA⟩ : ∃ A, A = ((xs.take i).filter (liveV)).map RowV.session := ⟨_, rfl⟩
      rw [← hA] at HO HT HLn
      clear hA
      obtain ⟨p5, c5, hs5, _, _⟩ := HO.out.shape
      subst hs5
      obtain ⟨xs1, xk, ⟨xt, xr, xv, xg, xl⟩⟩ := x
      simp only [RegV.val] at d0 d1 d2 d3 d4 d5 d6 HT HVx
      clear hx hi hlt l1
      by_cases hk : xk.size = 0
      · have s1 : ((xk.size : Int) == 0) = true := by rw [beq_iff_eq]; omega
        have s1' : (xk.size == 0) = true := by rw [beq_iff_eq]; exact hk
        have hE : liveV ⟨xs1, xk, ⟨xt, xr, xv, xg, xl⟩⟩ = (true && visV ⟨xt, xr, xv, xg, xl⟩) := by unfold liveV; simp only; rw [decide_eq_true hk]
        cases hvx : visV ⟨xt, xr, xv, xg, xl⟩ with
        | false =>
          rw [show (decide (0 < xt) && !xg) = false from hvx] at HVx
          replace HT := Lib.hid (HT.out.trans (by rw [if_neg (by rw [hE, hvx]; decide), List.append_nil]))
          clear hvx hE hk
          go_wp2_with (go_at_call 51; refine (HVx.out _).mono ?_; rintro e w5 ⟨rfl, hb⟩; have HB5 := Lib.hid (HB.out.trans (hb.mono HB.out.size)); have HO5 := Lib.hid (HO.out.below hb); clear hb)
          go_roundg (N - (i + 1))
          case measure => have := HIn.out; omega
          case rel => exact ⟨i + 1, by have := HIn.out; omega, by go_num, by rw [HT.out]; exact HO5, HB5⟩
        | true =>
          rw [show (decide (0 < xt) && !xg) = true from hvx] at HVx
          replace HT := Lib.hid (HT.out.trans (by rw [if_pos (by rw [hE, hvx]; rfl)]))
          clear hvx hE hk
          go_wp2_with fail
          refine (HVx.out _).mono ?_
          rintro e w5 ⟨rfl, hb⟩
          have HB5 := Lib.hid (HB.out.trans (hb.mono HB.out.size))
          have HO5 := Lib.hid (HO.out.below hb)
          clear hb x0 d0 d1 d2 d3 d4 d5 d6
          have x0 := Lies.cell (i := 0) (HL.out.below HB5.out) rfl
          obtain ⟨d0, d1, d2, d3, d4, d5, d6⟩ := (HI.out.grown HB5.out).look HX.out
          have HBa := Lib.hid (HB5.out.trans ((HAl.out w5 xs1).mono HB5.out.size))
          have HOa := Lib.hid (HO5.out.below (HAl.out w5 xs1))
          go_wp2_with (at_builtin; refine app_text16 rfl _ _ rfl w.heap.size _ _ xs1 rfl HOa.out w5.heap.size 1 rfl (HNw.out w5 xs1) (by have := HLn.out; omega) HBa.out.size ?_; intro v8 w8 h1 h2; have HO8 := Lib.hid h1; have HB8 := Lib.hid (HBa.out.trans h2); clear h1 h2)
          go_roundg (N - (i + 1))
          case measure => have := HIn.out; omega
          case rel => exact ⟨i + 1, by have := HIn.out; omega, by go_num, by rw [HT.out]; exact HO8, HB8⟩
      · have s1 : ((xk.size : Int) == 0) = false := by rw [beq_eq_false_iff_ne]; omega
        have s1' : (xk.size == 0) = false := by rw [beq_eq_false_iff_ne]; exact hk
        have hE : liveV ⟨xs1, xk, ⟨xt, xr, xv, xg, xl⟩⟩ = false := by unfold liveV; simp only; rw [decide_eq_false hk]; rfl
        replace HT := Lib.hid (HT.out.trans (by rw [if_neg (by rw [hE]; decide), List.append_nil]))
        clear hE hk
        go_wp2
        go_roundg (N - (i + 1))
        case measure => have := HIn.out; omega
        case rel => exact ⟨i + 1, by have := HIn.out; omega, by go_num, by rw [HT.out]; exact HO, HB⟩
    · have t1 : decide ((i : Int) < (N : Int)) = false := decide_eq_false (by omega)
      have t1' : decide (i < N) = false := decide_eq_false hlt
      have HT := Lib.hid (show ((xs.take i).filter (liveV)).map RowV.session = livesV xs by rw [List.take_of_length_le (by rw [← HN.out]; omega)]; rfl)
      rw [HT.out] at HO
      clear hlt hi l1
      go_wp2
      go_ret
      exact ⟨⟨_, rfl, HO.out⟩, HB.out⟩
end Go.Proofs.YtgbhfhnbmgkaoaaGreatDoor
namespace Go.Proofs.YtgbhfhnbmgkaoaaGreatDoor
open Go.RowKit TextNat RegMath

/-- '!=' of two rows. -/
theorem neq_row (a b : RowV) (w : World) : (binOp .neq 35 a.val b.val).run Tryz.prog w = .ok (.bool (!decide (a = b))) w := by
  obtain ⟨a6, a7, ⟨a1, a2, a3, a4, a5⟩⟩ := a
  obtain ⟨b6, b7, ⟨b1, b2, b3, b4, b5⟩⟩ := b
  unfold RowV.val
  simp only
  by_cases h6 : a6 = b6
  · by_cases h7 : a7 = b7
    · by_cases h1 : a1 = b1
      · by_cases h2 : a2 = b2
        · by_cases h3 : a3 = b3
          · by_cases h4 : a4 = b4
            · by_cases h5 : a5 = b5
              · subst h1; subst h2; subst h3; subst h4; subst h5; subst h6; subst h7
                rw [decide_eq_true rfl]
                go_simp
              · rw [decide_eq_false (by simp [h5])]
                subst h1; subst h2; subst h3; subst h4; subst h6; subst h7
                go_simp
            · rw [decide_eq_false (by simp [h4])]
              subst h1; subst h2; subst h3; subst h6; subst h7
              go_simp
          · rw [decide_eq_false (by simp [h3])]
            have k := text_list h3
            subst h1; subst h2; subst h6; subst h7
            go_simp
        · rw [decide_eq_false (by simp [h2])]
          subst h1; subst h6; subst h7
          go_simp
      · rw [decide_eq_false (by simp [h1])]
        subst h6; subst h7
        go_simp
    · rw [decide_eq_false (by simp [h7])]
      have k := text_list h7
      subst h6
      go_simp
  · rw [decide_eq_false (by simp [h6])]
    have k := text_list h6
    go_simp
theorem neq_text16 (a b : ByteArray) (w : World) : (binOp .neq 9 (.string a) (.string b)).run Tryz.prog w = .ok (.bool (!decide (a = b))) w := by
  by_cases h : a = b
  · subst h
    rw [decide_eq_true rfl]
    go_simp
  · rw [decide_eq_false h]
    have k := text_list h
    go_simp
theorem same_take {α : Type} {xs ys : List α} {i : Nat} {x y : α} (h : xs.take i = ys.take i) (hx : xs[i]? = some x) (hy : ys[i]? = some y) (e : x = y) : xs.take (i + 1) = ys.take (i + 1) := by
  rw [List.take_add_one, List.take_add_one, h, hx, hy, e]
set_option maxRecDepth 100000 in
set_option maxHeartbeats 4000000 in
theorem refSame01 (p q : Option Addr) (c d : Nat) (xs ys : List ByteArray) (w : World) (hx : TextsAt w p xs) (hy : TextsAt w q ys) (hl : xs.length ≤ 9223372036854775807) :
    Calls Tryz.prog 30 #[.slice p xs.length c, .slice q ys.length d] w fun e w' => e = .returned (.bool (decide (xs = ys))) ∧ ∃ n, w' = w.drewN n := by
  obtain ⟨N, hN⟩ : ∃ N, N = xs.length := ⟨_, rfl⟩
  obtain ⟨M, hM⟩ : ∃ M, M = ys.length := ⟨_, rfl⟩
  have HN := Lib.hid hN
  have HM := Lib.hid hM
  have HX := Lib.hid hx
  have HY := Lib.hid hy
  rw [← hN] at hl ⊢
  rw [← hM]
  clear hx hy hN hM
  by_cases hNM : N = M
  · subst hNM
    have z1 : ((N : Int) == (N : Int)) = true := by rw [beq_iff_eq]
    go_enter Tryz.func30, Tryz.ntmps30
    go_wp2
    go_loopg [5] N (fun gh s5 wx => ∃ i : Nat, i + gh = N ∧ s5 = .int .i64 (i : Int) ∧ Hid (xs.take i = ys.take i) ∧ ∃ n, wx = w.drewN n)
    case atStart => exact ⟨0, by omega, by go_num, Lib.hid rfl, 0, rfl⟩
    case round =>
      obtain ⟨i, hi, rfl, HT, n, hw⟩ := hrel
      rename World => W1
      have HW := Lib.hid hw
      clear hw
      by_cases hlt : i < N
      · have t1 : decide ((i : Int) < (N : Int)) = true := decide_eq_true (by omega)
        have t1' : decide (i < N) = true := decide_eq_true hlt
        have q0 : (i : Int) < (N : Int) := by omega
        have q1 : (0 : Int) ≤ (i : Int) := by omega
        obtain ⟨x, hx⟩ : ∃ x, xs[i]? = some x := ⟨_, List.getElem?_eq_getElem (by rw [← HN.out]; exact hlt)⟩
        obtain ⟨y, hy⟩ : ∃ y, ys[i]? = some y := ⟨_, List.getElem?_eq_getElem (by rw [← HM.out]; exact hlt)⟩
        obtain ⟨b1, o1, rfl, c0⟩ := (show TextsAt W1 p xs by rw [HW.out]; exact HX.out) i x hx
        obtain ⟨b2, o2, rfl, c1⟩ := (show TextsAt W1 q ys by rw [HW.out]; exact HY.out) i y hy
        have HX1 := Lib.hid hx
        have HY1 := Lib.hid hy
        have HIn := Lib.hid (And.intro hi hlt)
        have neq := fun w => neq_text16 x y w
        have HE := Lib.hid (fun e => same_take HT.out hx hy e)
        have HF := Lib.hid (show ¬ x = y → decide (xs = ys) = false from fun e => decide_eq_false (fun e2 => e (by rw [e2, hy] at hx; exact (Option.some.inj hx).symm)))
        clear hx hy hi hlt
        by_cases e : x = y
        · rw [decide_eq_true e] at neq
          have HE2 := Lib.hid (HE.out e)
          subst e
          clear HF
          go_wp2_with fail
          go_quiet (fail)
          go_wp2
          go_roundg (N - (i + 1))
          case measure => have := HIn.out; omega
          case rel => exact ⟨i + 1, by have := HIn.out; omega, by go_num, HE2, n + nq, by rw [HW.out, World.drewN_drewN]⟩
        · rw [decide_eq_false e] at neq
          have HF2 := Lib.hid (HF.out e)
          have k := text_list e
          have k' : (x.toList == y.toList) = false := beq_eq_false_iff_ne.2 k
          clear e HE HF
          go_wp2_with fail
          go_quiet (fail)
          go_wp2
          go_ret
          exact ⟨by rw [HF2.out]; rfl, n + nq, by rw [HW.out, World.drewN_drewN]⟩
      · have t1 : decide ((i : Int) < (N : Int)) = false := decide_eq_false (by omega)
        have t1' : decide (i < N) = false := decide_eq_false hlt
        have HF := Lib.hid (show decide (xs = ys) = true by
          have := HT.out
          rw [List.take_of_length_le (by rw [← HN.out]; omega), List.take_of_length_le (by rw [← HM.out]; omega)] at this
          exact decide_eq_true this)
        clear hi hlt
        go_wp2
        go_ret
        exact ⟨by rw [HF.out]; rfl, n, HW.out⟩
  · have z1 : ((N : Int) == (M : Int)) = false := by rw [beq_eq_false_iff_ne]; omega
    have z1' : (N == M) = false := by rw [beq_eq_false_iff_ne]; exact hNM
    have HF := Lib.hid (show decide (xs = ys) = false from decide_eq_false (fun e => hNM (by rw [HN.out, HM.out, e])))
    go_enter Tryz.func30, Tryz.ntmps30
    go_wp2
    go_ret
    exact ⟨by rw [HF.out]; rfl, 0, rfl⟩
set_option maxRecDepth 100000 in
set_option maxHeartbeats 4000000 in
theorem refSame16 (p q : Option Addr) (c d : Nat) (xs ys : List RowV) (w : World) (hx : RowsIn w p xs) (hy : RowsIn w q ys) (hl : xs.length ≤ 9223372036854775807) :
    Calls Tryz.prog 35 #[.slice p xs.length c, .slice q ys.length d] w fun e w' => e = .returned (.bool (decide (xs = ys))) ∧ ∃ n, w' = w.drewN n := by
  obtain ⟨N, hN⟩ : ∃ N, N = xs.length := ⟨_, rfl⟩
  obtain ⟨M, hM⟩ : ∃ M, M = ys.length := ⟨_, rfl⟩
  have HN := Lib.hid hN
  have HM := Lib.hid hM
  have HX := Lib.hid hx
  have HY := Lib.hid hy
  rw [← hN] at hl ⊢
  rw [← hM]
  clear hx hy hN hM
  by_cases hNM : N = M
  · subst hNM
    have z1 : ((N : Int) == (N : Int)) = true := by rw [beq_iff_eq]
    go_enter Tryz.func35, Tryz.ntmps35
    go_wp2
    go_loopg [5] N (fun gh s5 wx => ∃ i : Nat, i + gh = N ∧ s5 = .int .i64 (i : Int) ∧ Hid (xs.take i = ys.take i) ∧ ∃ n, wx = w.drewN n)
    case atStart => exact ⟨0, by omega, by go_num, Lib.hid rfl, 0, rfl⟩
    case round =>
      obtain ⟨i, hi, rfl, HT, n, hw⟩ := hrel
      rename World => W1
      have HW := Lib.hid hw
      clear hw
      by_cases hlt : i < N
      · have t1 : decide ((i : Int) < (N : Int)) = true := decide_eq_true (by omega)
        have t1' : decide (i < N) = true := decide_eq_true hlt
        have q0 : (i : Int) < (N : Int) := by omega
        have q1 : (0 : Int) ≤ (i : Int) := by omega
        obtain ⟨x, hx⟩ : ∃ x, xs[i]? = some x := ⟨_, List.getElem?_eq_getElem (by rw [← HN.out]; exact hlt)⟩
        obtain ⟨y, hy⟩ : ∃ y, ys[i]? = some y := ⟨_, List.getElem?_eq_getElem (by rw [← HM.out]; exact hlt)⟩
        obtain ⟨b1, o1, rfl⟩ := HX.out.addr (by rw [← HN.out]; omega)
        obtain ⟨b2, o2, rfl⟩ := HY.out.addr (by rw [← HM.out]; omega)
        obtain ⟨c0, c1, c2, c3, c4, c5, c6⟩ := (show RowsIn W1 _ xs by rw [HW.out]; exact HX.out).look hx
        obtain ⟨d0, d1, d2, d3, d4, d5, d6⟩ := (show RowsIn W1 _ ys by rw [HW.out]; exact HY.out).look hy
        have HX1 := Lib.hid hx
        have HY1 := Lib.hid hy
        have HIn := Lib.hid (And.intro hi hlt)
        have neq := fun w => neq_row x y w
        have HE := Lib.hid (fun e => same_take HT.out hx hy e)
        have HF := Lib.hid (show ¬ x = y → decide (xs = ys) = false from fun e => decide_eq_false (fun e2 => e (by rw [e2, hy] at hx; exact (Option.some.inj hx).symm)))
        obtain ⟨x1, x2, ⟨x3, x4, x5, x6, x7⟩⟩ := x
        obtain ⟨y1, y2, ⟨y3, y4, y5, y6, y7⟩⟩ := y
        simp only [RowV.val] at c0 c1 c2 c3 c4 c5 c6 d0 d1 d2 d3 d4 d5 d6 neq
        clear hx hy hi hlt
        by_cases e : (⟨x1, x2, ⟨x3, x4, x5, x6, x7⟩⟩ : RowV) = ⟨y1, y2, ⟨y3, y4, y5, y6, y7⟩⟩
        · rw [decide_eq_true e] at neq
          have HE2 := Lib.hid (HE.out e)
          clear e
          clear HF
          go_wp2_with fail
          go_quiet (fail)
          go_wp2
          go_roundg (N - (i + 1))
          case measure => have := HIn.out; omega
          case rel => exact ⟨i + 1, by have := HIn.out; omega, by go_num, HE2, n + nq, by rw [HW.out, World.drewN_drewN]⟩
        · rw [decide_eq_false e] at neq
          have HF2 := Lib.hid (HF.out e)
          clear e HE HF
          go_wp2_with fail
          go_quiet (fail)
          go_wp2
          go_ret
          exact ⟨by rw [HF2.out]; rfl, n + nq, by rw [HW.out, World.drewN_drewN]⟩
      · have t1 : decide ((i : Int) < (N : Int)) = false := decide_eq_false (by omega)
        have t1' : decide (i < N) = false := decide_eq_false hlt
        have HF := Lib.hid (show decide (xs = ys) = true by
          have := HT.out
          rw [List.take_of_length_le (by rw [← HN.out]; omega), List.take_of_length_le (by rw [← HM.out]; omega)] at this
          exact decide_eq_true this)
        clear hi hlt
        go_wp2
        go_ret
        exact ⟨by rw [HF.out]; rfl, n, HW.out⟩
  · have z1 : ((N : Int) == (M : Int)) = false := by rw [beq_eq_false_iff_ne]; omega
    have z1' : (N == M) = false := by rw [beq_eq_false_iff_ne]; exact hNM
    have HF := Lib.hid (show decide (xs = ys) = false from decide_eq_false (fun e => hNM (by rw [HN.out, HM.out, e])))
    go_enter Tryz.func35, Tryz.ntmps35
    go_wp2
    go_ret
    exact ⟨by rw [HF.out]; rfl, 0, rfl⟩
end Go.Proofs.YtgbhfhnbmgkaoaaGreatDoor
namespace Go.Proofs.YtgbhfhnbmgkaoaaGreatDoor
open Go.RowKit TextNat RegMath

theorem results_cell_one {P : Program} {fn : Func} {p : Tmp} {ty : TypeId} (h : fn.results = #[.cell p ty]) (tmps : Array Value) (w : World) (g : Nat) (T : TypeId) (cs : Array Value) (fr : Nat × Nat) (d : TypeDesc)
    (hp : tmps.getD p undef = .pointer (some ⟨g, 0, none⟩)) (hg : w.heap[g]? = some (.cells cs T fr))
    (hu : P.underlying ty = some d) (hd : (match d with | .struct _ | .array _ _ => true | _ => false) = true) (hi : (P.info? ty).map (·.size) = some cs.size) :
    (results fn tmps).run P w = .ok (.agg cs) w := by
  have hp' : tmps[p]?.getD undef = .pointer (some ⟨g, 0, none⟩) := by simpa using hp
  simp [results, h, hp', asAddr, run_loadVar_row w g T ty cs fr d hg hu hd hi]
def bestTo (xs : List RegV) (c : RegV) (k : Nat) : Bool := (xs.take k).all fun x => !above x.c c.c
theorem bestTo_zero (xs : List RegV) (c : RegV) : bestTo xs c 0 = true := rfl
theorem bestTo_step {xs : List RegV} {c x : RegV} {k : Nat} (h : xs[k]? = some x) : bestTo xs c (k + 1) = (bestTo xs c k && !above x.c c.c) := by
  unfold bestTo
  rw [List.take_add_one, h, List.all_append]
  simp
theorem bestTo_all {xs : List RegV} {c : RegV} {k : Nat} (h : xs.length ≤ k) : bestTo xs c k = best (xs.map RegV.c) c.c := by
  unfold bestTo best
  rw [List.take_of_length_le h, List.all_map]
  rfl
theorem mergeV_best {xs : List RegV} {i : Nat} {x : RegV} (h : xs[i]? = some x) (hb : best (xs.map RegV.c) x.c = true) : mergeV xs = x := by
  unfold mergeV
  rw [merge_is (m := x.c) ⟨List.mem_map_of_mem (List.mem_of_getElem? h), best_iff.1 hb⟩, RegV.of_c]
theorem mergeV_none {xs : List RegV} (h : ∀ (j : Nat) (x : RegV), xs[j]? = some x → best (xs.map RegV.c) x.c = false) : mergeV xs = zeroR := by
  cases xs with
  | nil => rfl
  | cons a r =>
    exfalso
    have hw := merge_wins (l := (a :: r).map RegV.c) (by simp)
    obtain ⟨x, hx, he⟩ := List.mem_map.1 hw.mem
    obtain ⟨j, hj⟩ := List.getElem?_of_mem hx
    have h1 := h j x hj
    rw [he, best_iff.2 hw.top] at h1
    cases h1
theorem put_five {w : World} {b : Nat} {T : TypeId} {l : List Value} (h : Lies w b l T) (hl : l.length = 5) (u0 u1 u2 u3 u4 : Value) : Lies (((((w.setCell ⟨b, 0, none⟩ u0).setCell ⟨b, 1, none⟩ u1).setCell ⟨b, 2, none⟩ u2).setCell ⟨b, 3, none⟩ u3).setCell ⟨b, 4, none⟩ u4) b [u0, u1, u2, u3, u4] T ∧ But b w (((((w.setCell ⟨b, 0, none⟩ u0).setCell ⟨b, 1, none⟩ u1).setCell ⟨b, 2, none⟩ u2).setCell ⟨b, 3, none⟩ u3).setCell ⟨b, 4, none⟩ u4) := by
  match l, hl with
  | [_, _, _, _, _], _ => exact ⟨((((h.set 0 u0).set 1 u1).set 2 u2).set 3 u3).set 4 u4, ((((But.set b 0 w u0).trans (But.set b 1 _ u1)).trans (But.set b 2 _ u2)).trans (But.set b 3 _ u3)).trans (But.set b 4 _ u4)⟩
set_option maxRecDepth 100000 in
set_option maxHeartbeats 8000000 in
theorem refMerge15 (p : Option Addr) (c : Nat) (xs : List RegV) (w : World) (h : RegsIn w p xs) (hl : xs.length ≤ 1000) :
    Calls Tryz.prog 43 #[.slice p xs.length c] w fun e w' => e = .returned (mergeV xs).val ∧ Below w.heap.size w w' := by
  obtain ⟨N, hN⟩ : ∃ N, N = xs.length := ⟨_, rfl⟩
  obtain ⟨W0, hW0⟩ : ∃ W0, W0 = w.alloc (.cells #[.int .i64 0, .int .i64 0, .string ⟨#[]⟩, .bool false, .int .i64 0] 33) := ⟨_, rfl⟩
  have hB0 : Below w.heap.size w W0 := by rw [hW0]; exact (Below.refl _ _).alloc (Nat.le_refl _) _
  have HI := Lib.hid (h.grown hB0)
  have HB0 := Lib.hid hB0
  have HR0 := Lib.hid (show Lies W0 w.heap.size [.int .i64 0, .int .i64 0, .string ⟨#[]⟩, .bool false, .int .i64 0] 33 by rw [hW0]; exact Lies.new w _ _)
  have HN := Lib.hid hN
  have HW := Lib.hid hW0
  rw [← hN] at hl ⊢
  clear h hN hB0 hW0
  go_enter Tryz.func43, Tryz.ntmps43
  go_wp2_with fail
  rw [← HW.out]
  go_loopg [3] N (fun gh s3 wx => ∃ i : Nat, i + gh = N ∧ s3 = .int .i64 (i : Int) ∧ Hid (∀ (j : Nat) (a : RegV), j < i → xs[j]? = some a → best (xs.map RegV.c) a.c = false) ∧ Below W0.heap.size W0 wx)
  case atStart => exact ⟨0, by omega, by go_num, Lib.hid (fun j a hj => by omega), Below.refl _ _⟩
  case round =>
    obtain ⟨i, hi, rfl, HJ, hb⟩ := hrel
    rename World => W1
    have HB1 := Lib.hid hb
    clear hb
    by_cases hiN : i < N
    · have t1 : decide ((i : Int) < (N : Int)) = true := decide_eq_true (by omega)
      have t1' : decide (i < N) = true := decide_eq_true hiN
      obtain ⟨a, ha⟩ : ∃ a, xs[i]? = some a := ⟨_, List.getElem?_eq_getElem (by rw [← HN.out]; exact hiN)⟩
      have HA := Lib.hid ha
      clear ha
      go_wp2_with fail
      go_loopg [4, 5] N (fun gh s4 s5 wx => ∃ k : Nat, k + gh = N ∧ s5 = .int .i64 (k : Int) ∧ s4 = .bool (bestTo xs a k) ∧ Below W0.heap.size W0 wx)
      case atStart => exact ⟨0, by omega, by go_num, by rw [bestTo_zero], HB1.out⟩
      case round =>
        obtain ⟨k, hk, rfl, rfl, hb2⟩ := hrel
        rename World => W2
        have HB2 := Lib.hid hb2
        obtain ⟨b, off, hp, x0, x1, x2, x3, x4⟩ := (HI.out.grown hb2) i _ HA.out
        clear hb2
        obtain ⟨m, hm⟩ : ∃ m, m = bestTo xs a k := ⟨_, rfl⟩
        rw [← hm]
        have HM := Lib.hid hm
        clear hm
        by_cases hkN : k < N
        · have q1 : decide ((k : Int) < (N : Int)) = true := decide_eq_true (by omega)
          have q1' : decide (k < N) = true := decide_eq_true hkN
          obtain ⟨d, hbb⟩ : ∃ a, xs[k]? = some a := ⟨_, List.getElem?_eq_getElem (by rw [← HN.out]; exact hkN)⟩
          obtain ⟨b', off', hp', y0, y1, y2, y3, y4⟩ := (HI.out.grown HB2.out) k _ hbb
          obtain rfl : p = some ⟨b, off, none⟩ := hp
          obtain ⟨rfl, rfl⟩ : b' = b ∧ off' = off := by simpa using hp'.symm
          have HS := Lib.hid (bestTo_step (c := a) hbb)
          have HLs := Lib.hid (fun w => refAbove15 d a w)
          simp only [RegV.val] at HLs
          clear hbb hp'
          cases m with
          | false =>
            go_wp2_with fail
            go_quiet (fail)
            go_wp2
            go_roundg (N - (k + 1))
            case measure => omega
            case rel => exact ⟨k + 1, by omega, by go_num, by rw [HS.out, ← HM.out]; rfl, below_drewN _ HB2.out⟩
          | true =>
            have HB3 := Lib.hid (Below.trans HB2.out (Below.drew (Below.refl W2.heap.size W2) |>.mono HB2.out.size))
            go_wp2_with fail
            go_still_tail 10, (by kernel_rfl)
            change wpList _ _ _ _ _ W2.drew
            go_wp2_with (go_at_call 61; refine (HLs.out _).mono ?_; rintro e w3 ⟨rfl, hb3⟩; have HB4 := Lib.hid (HB3.out.trans (hb3.mono HB3.out.size)); clear hb3)
            go_roundg (N - (k + 1))
            case measure => omega
            case rel => exact ⟨k + 1, by omega, by go_num, by rw [HS.out, ← HM.out]; rfl, HB4.out⟩
        · have q1 : decide ((k : Int) < (N : Int)) = false := decide_eq_false (by omega)
          have q1' : decide (k < N) = false := decide_eq_false hkN
          have hT : m = best (xs.map RegV.c) a.c := by rw [HM.out]; exact bestTo_all (by rw [← HN.out]; omega)
          have HL0 := Lib.hid (HR0.out.below HB2.out)
          cases m with
          | false =>
            have HJ2 := Lib.hid (show ∀ (j : Nat) (z : RegV), j < i + 1 → xs[j]? = some z → best (xs.map RegV.c) z.c = false from fun j z hj hja => by
              by_cases e : j < i
              · exact HJ.out j z e hja
              · obtain rfl : j = i := by omega
                obtain rfl : z = a := Option.some.inj (hja.symm.trans HA.out)
                exact hT.symm)
            clear hT hp x0 x1 x2 x3 x4
            go_wp2
            go_roundg (N - (i + 1))
            case measure => omega
            case rel => exact ⟨i + 1, by omega, by go_num, HJ2, HB2.out⟩
          | true =>
            have HG := Lib.hid (mergeV_best HA.out hT.symm)
            clear hT
            subst hp
            have c0 := HL0.out.cell (i := 0) rfl; have c1 := HL0.out.cell (i := 1) rfl; have c2 := HL0.out.cell (i := 2) rfl; have c3 := HL0.out.cell (i := 3) rfl; have c4 := HL0.out.cell (i := 4) rfl
            have f0 := HL0.out.free 0; have f1 := HL0.out.free 1; have f2 := HL0.out.free 2; have f3 := HL0.out.free 3; have f4 := HL0.out.free 4
            go_wp2
            obtain ⟨q2, q3⟩ := put_five HL0.out rfl (.int .i64 a.time) (.int .i64 a.region) (.string a.value) (.bool a.gone) (.int .i64 a.life)
            refine bodyPost_ret (results_cell_one Tryz.results43 _ _ w.heap.size 33 _ (0, 0) _ rfl q2 Tryz.underlying33 rfl (by kernel_rfl)) rfl ?_
            exact ⟨by rw [HG.out]; rfl, (HB0.out.trans (HB2.out.mono HB0.out.size)).trans (q3.below (HB0.out.trans (HB2.out.mono HB0.out.size)).size)⟩
    · have t1 : decide ((i : Int) < (N : Int)) = false := decide_eq_false (by omega)
      have t1' : decide (i < N) = false := decide_eq_false hiN
      have HG := Lib.hid (mergeV_none (xs := xs) fun j a hja => HJ.out j a (by have := (List.getElem?_eq_some_iff.1 hja).1; rw [← HN.out] at this; omega) hja)
      have HL0 := Lib.hid (HR0.out.below HB1.out)
      have c0 := HL0.out.cell (i := 0) rfl; have c1 := HL0.out.cell (i := 1) rfl; have c2 := HL0.out.cell (i := 2) rfl; have c3 := HL0.out.cell (i := 3) rfl; have c4 := HL0.out.cell (i := 4) rfl
      have f0 := HL0.out.free 0; have f1 := HL0.out.free 1; have f2 := HL0.out.free 2; have f3 := HL0.out.free 3; have f4 := HL0.out.free 4
      go_wp2
      obtain ⟨q2, q3⟩ := put_five HL0.out rfl (.int .i64 0) (.int .i64 0) (.string ⟨#[]⟩) (.bool false) (.int .i64 0)
      refine bodyPost_ret (results_cell_one Tryz.results43 _ _ w.heap.size 33 _ (0, 0) _ rfl q2 Tryz.underlying33 rfl (by kernel_rfl)) rfl ?_
      exact ⟨by rw [HG.out]; rfl, (HB0.out.trans (HB1.out.mono HB0.out.size)).trans (q3.below (HB0.out.trans (HB1.out.mono HB0.out.size)).size)⟩
end Go.Proofs.YtgbhfhnbmgkaoaaGreatDoor
