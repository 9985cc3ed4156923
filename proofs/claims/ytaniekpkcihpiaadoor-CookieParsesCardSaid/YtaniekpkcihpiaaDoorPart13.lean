/-
  Texts of one claim, merged.
  CookieHits: Plain mathematics of chapter 13: the pairs with a name; what a header's letters are. No program is run here.
  CookieRefFind: The document's Find of chapter 13. The condition: a text of at most 1,000,000 bytes.
-/
import Derived.Test.YtaniekpkcihpiaaDoorPart08
import Derived.Test.YtaniekpkcihpiaaDoorPart12
namespace Go.Proofs.YtaniekpkcihpiaaDoor
open TextNat CookieMath

theorem mem_header : ∀ {l : List CookieMath.Pair} {p : CookieMath.Pair}, p ∈ l → ∀ c, c ∈ p.1 ∨ c ∈ p.2 → c ∈ header l
  | q :: l, p, h, c, hc => by
    rw [header_cons]
    rcases List.mem_cons.1 h with rfl | h
    · refine List.mem_append.2 (.inl ?_)
      unfold one
      rcases hc with hc | hc
      · exact List.mem_append.2 (.inl hc)
      · exact List.mem_append.2 (.inr (List.mem_cons_of_mem _ hc))
    · refine List.mem_append.2 (.inr ?_)
      cases l with
      | nil => cases h
      | cons q2 r => exact List.mem_cons_of_mem _ (List.mem_cons_of_mem _ (mem_header h c hc))
theorem header_in : ∀ {l : List CookieMath.Pair} (c : Nat), c ∈ header l → c = 59 ∨ c = 32 ∨ c = 61 ∨ ∃ p ∈ l, c ∈ p.1 ∨ c ∈ p.2
  | q :: l, c, h => by
    rw [header_cons] at h
    rcases List.mem_append.1 h with h | h
    · unfold one at h
      rcases List.mem_append.1 h with h | h
      · exact .inr (.inr (.inr ⟨q, by simp, .inl h⟩))
      · rcases List.mem_cons.1 h with h | h
        · exact .inr (.inr (.inl h))
        · exact .inr (.inr (.inr ⟨q, by simp, .inr h⟩))
    · cases l with
      | nil => cases h
      | cons q2 r =>
        rcases List.mem_cons.1 h with h | h
        · exact .inl h
        · rcases List.mem_cons.1 h with h | h
          · exact .inr (.inl h)
          · rcases header_in c h with h | h | h | ⟨p, hp, h⟩
            · exact .inl h
            · exact .inr (.inl h)
            · exact .inr (.inr (.inl h))
            · exact .inr (.inr (.inr ⟨p, List.mem_cons_of_mem _ hp, h⟩))
theorem header_bytes (xs : List PairV) : ∀ c ∈ header (xs.map PairV.n), c < 256 := fun c hc => by
  rcases header_in c hc with h | h | h | ⟨p, hp, h⟩
  · omega
  · omega
  · omega
  · obtain ⟨q, _, rfl⟩ := List.mem_map.1 hp
    rcases h with h | h
    · exact nats_lt _ c h
    · exact nats_lt _ c h
/-- The pairs of a text are texts. -/
theorem parse_texts {s : ByteArray} {L : List CookieMath.Pair} (h : parse (nats s) = .inl L) : (L.map pairB).map PairV.n = L := by
  obtain ⟨h1, _⟩ := parse_is h
  have hb := nats_lt s
  rw [h1] at hb
  rw [List.map_map]
  conv => rhs; rw [← List.map_id L]
  exact List.map_congr_left fun p hp => n_pairB (fun c hc => hb c (mem_header hp c (.inl hc))) (fun c hc => hb c (mem_header hp c (.inr hc)))
/-- The pairs with this name among the first i. -/
def hits (xs : List PairV) (name : ByteArray) (i : Nat) : List PairV := (xs.take i).filter (fun p => decide (p.1 = name))
theorem hits_zero (xs : List PairV) (name : ByteArray) : hits xs name 0 = [] := rfl
theorem hits_yes {xs : List PairV} {name : ByteArray} {i : Nat} {x : PairV} (h : xs[i]? = some x) (hx : x.1 = name) : hits xs name (i + 1) = hits xs name i ++ [x] := by
  unfold hits
  rw [List.take_add_one, h, List.filter_append]
  congr 1
  show List.filter _ [x] = [x]
  rw [List.filter_cons_of_pos (by rw [hx]; simp)]
  rfl
theorem hits_no {xs : List PairV} {name : ByteArray} {i : Nat} {x : PairV} (h : xs[i]? = some x) (hx : ¬ x.1 = name) : hits xs name (i + 1) = hits xs name i := by
  unfold hits
  rw [List.take_add_one, h, List.filter_append]
  show _ ++ List.filter _ [x] = _
  rw [List.filter_cons_of_neg (by simpa using hx)]
  exact List.append_nil _
theorem hits_all (xs : List PairV) (name : ByteArray) (i : Nat) : ∃ r, hits xs name xs.length = hits xs name i ++ r := by
  refine ⟨(xs.drop i).filter (fun p => decide (p.1 = name)), ?_⟩
  unfold hits
  rw [← List.filter_append, List.take_append_drop, List.take_length]
theorem filter_hits (xs : List PairV) (name : ByteArray) : (xs.map PairV.n).filter (fun p => p.1 == nats name) = (hits xs name xs.length).map PairV.n := by
  unfold hits
  rw [List.take_length, List.filter_map]
  congr 1
  refine List.filter_congr fun p _ => ?_
  show (nats p.1 == nats name) = decide (p.1 = name)
  by_cases h : p.1 = name
  · rw [h]
    simp
  · rw [decide_eq_false h, beq_eq_false_iff_ne]
    exact fun e => h (by rw [← txt_nats p.1, e, txt_nats])
theorem find_by {s name : ByteArray} {xs : List PairV} (h : ¬ 4096 < s.size) (hp : parse (nats s) = .inl (xs.map PairV.n)) : findF (nats s) (nats name) = match hits xs name xs.length with
    | [] => .inr 7
    | [p] => .inl (nats p.2)
    | _ :: _ :: _ => .inr 8 := by
  rw [findF_is (by rw [nats_len]; exact h) hp, filter_hits]
  match hits xs name xs.length with
  | [] => rfl
  | [p] => rfl
  | _ :: _ :: _ => rfl

theorem hits_none {xs : List PairV} {name : ByteArray} (h : ∀ p ∈ xs, ¬ p.1 = name) : xs.filter (fun p => decide (p.1 = name)) = [] := by
  rw [List.filter_eq_nil_iff]
  intro p hp
  simpa using h p hp
theorem hits_one {a b : List PairV} {p : PairV} (ha : ∀ q ∈ a, ¬ q.1 = p.1) (hb : ∀ q ∈ b, ¬ q.1 = p.1) : hits (a ++ [p] ++ b) p.1 (a ++ [p] ++ b).length = [p] := by
  unfold hits
  rw [List.take_length, List.filter_append, List.filter_append, hits_none ha, hits_none hb]
  simp
theorem hits_two {a b : List PairV} {p : PairV} (ha : ∀ q ∈ a, ¬ q.1 = p.1) (hb : ∀ q ∈ b, ¬ q.1 = p.1) : hits (a ++ [p] ++ b ++ [p]) p.1 (a ++ [p] ++ b ++ [p]).length = [p, p] := by
  unfold hits
  rw [List.take_length, List.filter_append, List.filter_append, List.filter_append, hits_none ha, hits_none hb]
  simp
end Go.Proofs.YtaniekpkcihpiaaDoor
namespace Go.Proofs.YtaniekpkcihpiaaDoor
open Go.RowKit TextNat CookieMath

/-- What the document's Find answers. -/
def RefFindIs (s name : ByteArray) (e : Ending) : Prop :=
  match findF (nats s) (nats name) with
  | .inl v => e = .returned (.tuple #[.string (txt v), .int .i64 0])
  | .inr c => e = .returned (.tuple #[.string ⟨#[]⟩, .int .i64 (c : Int)])
set_option maxRecDepth 100000 in
set_option maxHeartbeats 8000000 in
theorem refFind13 (s name : ByteArray) (w : World) (hs : s.size ≤ 1000000) :
    Calls Tryd.prog 14 #[.string s, .string name] w fun e w' => RefFindIs s name e ∧ Below w.heap.size w w' := by
  by_cases h4 : 4096 < s.size
  · have t1 : decide ((4096 : Int) < (s.size : Int)) = true := decide_eq_true (by omega)
    have t1' : decide (4096 < s.size) = true := decide_eq_true h4
    have HF := Lib.hid (show findF (nats s) (nats name) = .inr 3 from findF_long (by rw [nats_len]; exact h4))
    clear h4 hs
    go_enter Tryd.func14, Tryd.ntmps14
    go_wp2
    go_ret2
    exact ⟨by unfold RefFindIs; rw [HF.out]; rfl, Below.refl _ _⟩
  have t1 : decide ((4096 : Int) < (s.size : Int)) = false := decide_eq_false (by omega)
  have t1' : decide (4096 < s.size) = false := decide_eq_false h4
  have H4 := Lib.hid h4
  have HP := Lib.hid (refParse13 s w hs)
  clear h4 hs
  go_enter Tryd.func14, Tryd.ntmps14
  go_wp2_with fail
  refine HP.out.mono ?_
  rintro e w1 ⟨h1, hb⟩
  have HB1 := Lib.hid hb
  clear hb HP
  unfold RefParseIs at h1
  cases hp : parse (nats s) with
  | inr k =>
    rw [hp] at h1
    subst h1
    have HF := Lib.hid (findF_bad (name := nats name) (by rw [nats_len]; exact H4.out) hp)
    have t2 : decide ((0 : Int) ≤ (k : Int)) = true := decide_eq_true (by omega)
    clear hp
    go_wp2
    go_ret2
    exact ⟨by unfold RefFindIs; rw [HF.out]; rfl, HB1.out⟩
  | inl L =>
    rw [hp] at h1
    obtain ⟨pp, cap, rfl, hc1, hc2, hI⟩ := h1
    obtain ⟨xs, hxs⟩ : ∃ xs, xs = L.map pairB := ⟨_, rfl⟩
    have HXL := Lib.hid (show L.length = xs.length by rw [hxs, List.length_map])
    have HF := Lib.hid (find_by (name := name) (xs := xs) H4.out (hp.trans (by rw [hxs, parse_texts hp])))
    rw [← hxs] at hI
    have HI := Lib.hid hI
    obtain ⟨N, hN⟩ : ∃ N, N = xs.length := ⟨_, rfl⟩
    rw [HXL.out, ← hN]
    have hN9 : N ≤ 9223372036854775807 := by rw [hN, ← HXL.out]; omega
    have HN := Lib.hid hN
    clear hp hxs hI hc1 hc2 hN
    go_wp2
    go_loopg [8, 9] N (fun gh s8 s9 wx => ∃ i : Nat, i + gh = N ∧ s9 = .int .i64 (i : Int) ∧ Below w.heap.size w wx ∧ Hid (PairsIn wx pp xs) ∧
      ((s8 = .int .i64 (-1) ∧ Hid (hits xs name i = [])) ∨ ∃ (k : Nat) (x : PairV), s8 = .int .i64 (k : Int) ∧ k < N ∧ Hid (xs[k]? = some x) ∧ Hid (hits xs name i = [x])))
    case atStart => exact ⟨0, by omega, by go_num, HB1.out, HI, .inl ⟨rfl, Lib.hid rfl⟩⟩
    case round =>
      obtain ⟨i, hi, rfl, hB, HI, hst⟩ := hrel
      have HB := Lib.hid hB
      by_cases hlt : i < N
      · have t1 : decide ((i : Int) < (N : Int)) = true := decide_eq_true (by omega)
        have t1' : decide (i < N) = true := decide_eq_true hlt
        obtain ⟨x, hx⟩ : ∃ x, xs[i]? = some x := ⟨_, List.getElem?_eq_getElem (by rw [← HN.out]; exact hlt)⟩
        obtain ⟨b1, o1, rfl⟩ := HI.out.addr (by rw [← HN.out]; omega)
        obtain ⟨c0, c1⟩ := HI.out.look hx
        by_cases he : x.1 = name
        · have HY := Lib.hid (hits_yes hx he)
          have HX := Lib.hid hx
          obtain ⟨x1, x2⟩ := x
          simp only at c0 c1 he
          subst he
          rcases hst with ⟨rfl, hh⟩ | ⟨k, y, rfl, hk, hy, hh⟩
          · have HH := Lib.hid (show hits xs x1 (i + 1) = [(x1, x2)] by rw [HY.out, hh.out]; rfl)
            clear hx hh hB
            go_wp2
            go_roundg (N - (i + 1))
            case measure => omega
            case rel => exact ⟨i + 1, by omega, by go_num, HB.out, HI, .inr ⟨i, _, rfl, hlt, HX, HH⟩⟩
          · have HF8 := Lib.hid (show findF (nats s) (nats x1) = .inr 8 by
              obtain ⟨r, hr⟩ := hits_all xs x1 (i + 1)
              rw [HF.out, hr, HY.out, hh.out]
              rfl)
            have t2 : decide ((0 : Int) ≤ (k : Int)) = true := decide_eq_true (by omega)
            clear hx hh hB hy
            go_wp2
            go_ret2
            exact ⟨by unfold RefFindIs; rw [HF8.out]; rfl, HB.out⟩
        · have HY := Lib.hid (hits_no hx he)
          obtain ⟨x1, x2⟩ := x
          simp only at c0 c1 he
          have ht : (x1.toList == name.toList) = false := beq_eq_false_iff_ne.2 (text_list he)
          have ht' := text_list he
          clear hx he hB
          go_wp2
          go_roundg (N - (i + 1))
          case measure => omega
          case rel =>
            refine ⟨i + 1, by omega, by go_num, HB.out, HI, ?_⟩
            rcases hst with ⟨rfl, hh⟩ | ⟨k, y, rfl, hk, hy, hh⟩
            · exact .inl ⟨rfl, Lib.hid (HY.out.trans hh.out)⟩
            · exact .inr ⟨k, y, rfl, hk, hy, Lib.hid (HY.out.trans hh.out)⟩
      · obtain rfl : i = N := by omega
        have t1 : decide ((i : Int) < (i : Int)) = false := decide_eq_false (by omega)
        have t1' : decide (i < i) = false := decide_eq_false (by omega)
        rcases hst with ⟨rfl, hh⟩ | ⟨k, y, rfl, hk, hy, hh⟩
        · have HF7 := Lib.hid (show findF (nats s) (nats name) = .inr 7 by rw [HF.out, ← HN.out, hh.out])
          clear hh hB
          go_wp2
          go_ret2
          exact ⟨by unfold RefFindIs; rw [HF7.out]; rfl, HB.out⟩
        · have HF0 := Lib.hid (show findF (nats s) (nats name) = .inl (nats y.2) by rw [HF.out, ← HN.out, hh.out])
          obtain ⟨b1, o1, rfl⟩ := HI.out.addr (by rw [← HN.out]; omega)
          obtain ⟨c0, c1⟩ := HI.out.look hy.out
          have t2 : decide ((k : Int) < 0) = false := decide_eq_false (by omega)
          have q1 : (k : Int) < (i : Int) := by omega
          obtain ⟨y1, y2⟩ := y
          simp only at c0 c1
          clear hh hB hy
          go_wp2
          go_ret2
          exact ⟨by unfold RefFindIs; rw [HF0.out]; show _ = Ending.returned (.tuple #[.string (txt (nats y2)), .int .i64 0]); rw [txt_nats]; rfl, HB.out⟩
end Go.Proofs.YtaniekpkcihpiaaDoor
