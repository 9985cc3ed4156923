/-
  Pairs in memory; the contracts of the program's functions of chapter 13, as sentences that its laws start from. No conditions but those typed.
-/
import Derived.Test.YtaniekpkcihpiaaCookieMath2
import Derived.Test.YtaniekpkcihpiaaErrIs
import Derived.Test.YtaniekpkcihpiaaAppFar
import Derived.Test.YtaniekpkcihpiaaText
import Derived.Test.YtaniekpkcihpiaaResults
import Derived.Test.YtaniekpkcihpiaaTextEq
import Derived.OwnWalk
import Derived.Laws.OwnMore
import Derived.Laws.AppendOwn
namespace Go.Proofs.Ytaniekpkcihpiaa
open Go.RowKit TextNat CookieMath

abbrev PairV := ByteArray × ByteArray
def PairV.n (p : PairV) : CookieMath.Pair := (nats p.1, nats p.2)
def pairB (p : CookieMath.Pair) : PairV := (txt p.1, txt p.2)
abbrev pairVal (p : PairV) : Value := .agg #[.string p.1, .string p.2]
/-- The pairs xs stand from the address pp on, two cells each. -/
def PairsIn (w : World) (pp : Option Addr) (xs : List PairV) : Prop := ∀ (i : Nat) (x : PairV), xs[i]? = some x → ∃ b off, pp = some ⟨b, off, none⟩ ∧ w.cell? ⟨b, off + i * 2, none⟩ = some (.string x.1) ∧ w.cell? ⟨b, off + i * 2 + 1, none⟩ = some (.string x.2)
theorem PairsIn.nil (w : World) (pp : Option Addr) : PairsIn w pp [] := fun i x h => by simp at h
theorem PairsIn.grown {w w' : World} {pp : Option Addr} {xs : List PairV} (h : PairsIn w pp xs) (hb : Below w.heap.size w w') : PairsIn w' pp xs := fun i a ha => by
  obtain ⟨b, off, hp, h1, h2⟩ := h i a ha
  exact ⟨b, off, hp, (hb.cell (p := ⟨b, off + i * 2, none⟩) (World.block_lt_of_cell? w _ h1)).trans h1, (hb.cell (p := ⟨b, off + i * 2 + 1, none⟩) (World.block_lt_of_cell? w _ h2)).trans h2⟩
theorem PairsIn.drewN {w : World} {pp : Option Addr} {xs : List PairV} (h : PairsIn w pp xs) (n : Nat) : PairsIn (w.drewN n) pp xs := h
theorem PairsIn.addr {w : World} {pp : Option Addr} {xs : List PairV} (h : PairsIn w pp xs) (h0 : 0 < xs.length) : ∃ b off, pp = some ⟨b, off, none⟩ := by
  obtain ⟨b, off, hp, _⟩ := h 0 _ (List.getElem?_eq_getElem h0)
  exact ⟨b, off, hp⟩
theorem PairsIn.look {w : World} {b off : Nat} {xs : List PairV} (h : PairsIn w (some ⟨b, off, none⟩) xs) {i : Nat} {x : PairV} (hx : xs[i]? = some x) : w.cell? ⟨b, off + i * 2, none⟩ = some (.string x.1) ∧ w.cell? ⟨b, off + i * 2 + 1, none⟩ = some (.string x.2) := by
  obtain ⟨b', off', hp, h1, h2⟩ := h i x hx
  obtain ⟨rfl, rfl⟩ : b = b' ∧ off = off' := by simpa using hp
  exact ⟨h1, h2⟩
theorem PairV.n_one {a b : PairV} (h : a.n = b.n) : a = b := by
  obtain ⟨a1, a2⟩ := a
  obtain ⟨b1, b2⟩ := b
  unfold PairV.n at h
  simp only [Prod.mk.injEq] at h
  rw [← txt_nats a1, ← txt_nats a2, ← txt_nats b1, ← txt_nats b2, h.1, h.2]
theorem n_pairB {p : CookieMath.Pair} (h1 : ∀ c ∈ p.1, c < 256) (h2 : ∀ c ∈ p.2, c < 256) : (pairB p).n = p := by
  unfold pairB PairV.n
  simp only [nats_txt _ h1, nats_txt _ h2]
theorem pairB_n (p : PairV) : pairB p.n = p := by
  unfold pairB PairV.n
  simp only [txt_nats]
theorem total_v (xs : List PairV) (k m : Nat) (h : ∀ p ∈ xs, p.1.size ≤ k ∧ p.2.size ≤ m) : total (xs.map PairV.n) ≤ xs.length * (k + m + 3) := by
  have := total_bound k m (xs.map PairV.n) (fun p hp => by
    obtain ⟨q, hq, rfl⟩ := List.mem_map.1 hp
    have := h q hq
    unfold PairV.n
    simp only [nats_len]
    exact this)
  rwa [List.length_map] at this
/-- May a pair be? -/
def rightV (p : PairV) : Bool := TextMath.token (nats p.1) && (nats p.2).all TextMath.octet
theorem rightV_iff (p : PairV) : rightV p = true ↔ Right p.n := by
  unfold rightV TextMath.token
  simp only [Bool.and_eq_true, List.all_eq_true, Bool.not_eq_true', List.isEmpty_eq_false_iff]
  constructor
  · rintro ⟨⟨h1, h2⟩, h3⟩
    exact ⟨h2, h1, h3⟩
  · rintro ⟨h1, h2, h3⟩
    exact ⟨⟨h2, h1⟩, h3⟩
/-- The number of the first pair that can't be. -/
def badV (xs : List PairV) : Option Nat := xs.findIdx? (fun p => !rightV p)
theorem badV_none {xs : List PairV} (h : badV xs = none) : ∀ p ∈ xs.map PairV.n, Right p := by
  unfold badV at h
  rw [List.findIdx?_eq_none_iff] at h
  intro p hp
  obtain ⟨q, hq, rfl⟩ := List.mem_map.1 hp
  have := h q hq
  exact (rightV_iff q).1 (by simpa using this)
theorem badV_right {xs : List PairV} (h : ∀ p ∈ xs.map PairV.n, Right p) : badV xs = none := by
  unfold badV
  rw [List.findIdx?_eq_none_iff]
  intro q hq
  have := (rightV_iff q).2 (h _ (List.mem_map_of_mem hq))
  rw [this]
  rfl
abbrev cook : ByteArray := ⟨#[99, 111, 111, 107, 105, 101]⟩
/-- What Parse answers. -/
def ParseIs (w : World) (s : ByteArray) (e : Ending) : Prop :=
  match parse (nats s) with
  | .inl l => ∃ pp cap, e = .returned (.tuple #[.slice pp l.length cap, .nilIface]) ∧ l.length ≤ cap ∧ cap ≤ 9223372036854775807 ∧ PairsIn w pp (l.map pairB)
  | .inr i => ∃ pp cap x, e = .returned (.tuple #[.slice pp 0 cap, x]) ∧ ErrAt w cook (i : Int) 2 x
/-- What Write answers. -/
def WriteIs (w : World) (xs : List PairV) (e : Ending) : Prop :=
  match badV xs with
  | none => e = .returned (.tuple #[.string (txt (header (xs.map PairV.n))), .nilIface])
  | some i => ∃ x, e = .returned (.tuple #[.string ⟨#[]⟩, x]) ∧ ErrAt w cook (i : Int) 1 x
/-- What Find answers. -/
def FindIs (w : World) (s name : ByteArray) (e : Ending) : Prop :=
  match findF (nats s) (nats name) with
  | .inl v => e = .returned (.tuple #[.string (txt v), .nilIface])
  | .inr c => ∃ x, e = .returned (.tuple #[.string ⟨#[]⟩, x]) ∧ ErrAt w cook (s.size : Int) (c : Int) x
def ParseOk : Prop := ∀ (s : ByteArray) (w : World), s.size ≤ 1000000 → Calls Try.prog 9 #[.string s] w fun e w' => ParseIs w' s e ∧ Below w.heap.size w w'
def WriteOk : Prop := ∀ (pp : Option Addr) (cap : Nat) (xs : List PairV) (w : World), PairsIn w pp xs → xs.length ≤ cap → cap ≤ 9223372036854775807 → total (xs.map PairV.n) ≤ 1000000 → (∀ p ∈ xs, p.1.size ≤ 20000 ∧ p.2.size ≤ 20000) → Calls Try.prog 6 #[.slice pp xs.length cap] w fun e w' => WriteIs w' xs e ∧ Below w.heap.size w w'
def FindOk : Prop := ∀ (s name : ByteArray) (w : World), s.size ≤ 1000000 → name.size ≤ 1000 → Calls Try.prog 7 #[.string s, .string name] w fun e w' => FindIs w' s name e ∧ Below w.heap.size w w'

/-! ### Rows of pairs of one's own -/
theorem info_pair : (Try.prog.info? 24).map (fun i => (i.zero, i.size, i.bytes)) = some (some (.agg #[.string ⟨#[]⟩, .string ⟨#[]⟩]), 2, 32) := by kernel_rfl
def pcells (a : PairV) : List Value := [.string a.1, .string a.2]
theorem pcells_len : ∀ A : List PairV, (A.flatMap pcells).length = A.length * 2
  | [] => rfl
  | x :: r => by
    rw [List.flatMap_cons, List.length_append, pcells_len r, List.length_cons]
    show 2 + _ = _
    omega
theorem pcells_at : ∀ {A : List PairV} {i : Nat} {a : PairV}, A[i]? = some a → (A.flatMap pcells)[i * 2]? = some (.string a.1) ∧ (A.flatMap pcells)[i * 2 + 1]? = some (.string a.2)
  | y :: r, 0, a, h => by
    obtain rfl : y = a := by simpa using h
    exact ⟨rfl, rfl⟩
  | y :: r, i + 1, a, h => by
    have h2 : r[i]? = some a := by simpa using h
    obtain ⟨k1, k2⟩ := pcells_at h2
    rw [List.flatMap_cons, List.getElem?_append_right (by show 2 ≤ _; omega), List.getElem?_append_right (by show 2 ≤ _; omega)]
    rw [show (i + 1) * 2 - (pcells y).length = i * 2 by show (i + 1) * 2 - 2 = _; omega, show (i + 1) * 2 + 1 - (pcells y).length = i * 2 + 1 by show (i + 1) * 2 + 1 - 2 = _; omega]
    exact ⟨k1, k2⟩
theorem pcells_one (A : List PairV) : ∀ u ∈ A.flatMap pcells, u.oneCell' = true := by
  intro u hu
  obtain ⟨a, _, hu⟩ := List.mem_flatMap.1 hu
  rcases List.mem_cons.1 hu with rfl | hu
  · rfl
  · rcases List.mem_cons.1 hu with rfl | hu
    · rfl
    · cases hu
def OwnQ (w : World) (B : Nat) (v : Value) (A : List PairV) : Prop := w.ownsRow B 24 2 v A.length (A.flatMap pcells)
theorem OwnQ.nil (w : World) (B : Nat) : OwnQ w B (.slice none 0 0) [] := World.ownsRow_nil w B _ 2
theorem OwnQ.shape {w : World} {B : Nat} {v : Value} {A : List PairV} (h : OwnQ w B v A) : ∃ p c, v = .slice p A.length c ∧ A.length ≤ c ∧ c ≤ 9223372036854775807 := by
  rcases h.2 with ⟨rfl, h0⟩ | ⟨g, cap, cur, rfl, _, _, h1, h2, _⟩
  · exact ⟨none, 0, by rw [h0], by omega, by omega⟩
  · exact ⟨_, _, rfl, h1, by unfold maxLen at h2; omega⟩
theorem OwnQ.below {w w' : World} {B : Nat} {v : Value} {A : List PairV} (h : OwnQ w B v A) (hb : Below w.heap.size w w') : OwnQ w' B v A := by
  refine ⟨h.1, ?_⟩
  rcases h.2 with h2 | ⟨g, cap, cur, h3, h4, h5, h6⟩
  · exact .inl h2
  · exact .inr ⟨g, cap, cur, h3, h4, (hb.block g (Array.getElem?_eq_some_iff.1 h5).1).trans h5, h6⟩
theorem OwnQ.but {w w' : World} {B pb : Nat} {v : Value} {A : List PairV} (h : OwnQ w B v A) (hb : But pb w w') (hn : ∀ q, v.ownBlock = some q → q ≠ pb) : OwnQ w' B v A := by
  refine ⟨h.1, ?_⟩
  rcases h.2 with h2 | ⟨g, cap, cur, rfl, h4, h5, h6⟩
  · exact .inl h2
  · exact .inr ⟨g, cap, cur, rfl, h4, (hb.block g (Array.getElem?_eq_some_iff.1 h5).1 (hn g rfl)).trans h5, h6⟩
theorem OwnQ.blk {w : World} {B : Nat} {v : Value} {A : List PairV} (h : OwnQ w B v A) : ∀ q, v.ownBlock = some q → B ≤ q := by
  intro q hq
  rcases h.2 with ⟨rfl, _⟩ | ⟨g, cap, cur, rfl, h4, _⟩
  · simp [Value.ownBlock] at hq
  · simp [Value.ownBlock] at hq
    omega
theorem OwnQ.lt {w : World} {B : Nat} {v : Value} {A : List PairV} (h : OwnQ w B v A) : ∀ q, v.ownBlock = some q → q < w.heap.size := by
  intro q hq
  rcases h.2 with ⟨rfl, _⟩ | ⟨g, cap, cur, rfl, h4, h5, _⟩
  · simp [Value.ownBlock] at hq
  · simp [Value.ownBlock] at hq
    subst hq
    exact (Array.getElem?_eq_some_iff.1 h5).1
theorem OwnQ.pairs {w : World} {B n c : Nat} {p : Option Addr} {A : List PairV} (h : OwnQ w B (.slice p n c) A) : PairsIn w p A := fun i a ha => by
  have hi := (List.getElem?_eq_some_iff.1 ha).1
  rcases h.2 with ⟨_, h2⟩ | ⟨g, cap, cur, h3, h4, h5, h6, h7, h8, h9⟩
  · omega
  · obtain ⟨rfl, rfl, rfl⟩ : p = some ⟨g, 0, none⟩ ∧ n = A.length ∧ c = cap := by simpa using h3
    obtain ⟨k1, k2⟩ := pcells_at ha
    rw [← h9] at k1 k2
    rw [List.getElem?_take] at k1 k2
    split at k1
    · split at k2
      · refine ⟨g, 0, rfl, ?_, ?_⟩
        · rw [cell_of_row w g _ cur _ _ h5, Nat.zero_add]
          simpa using k1
        · rw [cell_of_row w g _ cur _ _ h5, Nat.zero_add]
          simpa using k2
      · cases k2
    · cases k1
theorem news_pairs {w : World} {b off : Nat} {xs : List PairV} (h : PairsIn w (some ⟨b, off, none⟩) xs) : ∀ (j : Nat) (u : Value), (xs.flatMap pcells)[j]? = some u → w.cell? ((⟨b, off, none⟩ : Addr).add j) = some u := by
  intro j u hu
  have hj : j < (xs.flatMap pcells).length := (List.getElem?_eq_some_iff.1 hu).1
  rw [pcells_len] at hj
  have hi : j / 2 < xs.length := by omega
  obtain ⟨h1, h2⟩ := h.look (List.getElem?_eq_getElem hi)
  obtain ⟨k1, k2⟩ := pcells_at (A := xs) (List.getElem?_eq_getElem hi)
  have hadd : (⟨b, off, none⟩ : Addr).add j = ⟨b, off + j, none⟩ := by unfold Addr.add; split <;> simp_all
  rw [hadd]
  rcases Nat.mod_two_eq_zero_or_one j with hm | hm
  · have hd : j / 2 * 2 = j := by omega
    rw [hd] at h1 k1
    rw [k1] at hu
    obtain rfl := Option.some.inj hu
    exact h1
  · have hd : j / 2 * 2 + 1 = j := by omega
    rw [Nat.add_assoc, hd] at h2
    rw [hd] at k2
    rw [k2] at hu
    obtain rfl := Option.some.inj hu
    exact h2
/-- append of pairs onto a row of one's own. -/
theorem app_pairs {ops : Array Oper} {rest : List Oper} {o : Oper} {ac : Act} {Q : Exit → Act → World → Prop} {w : World} (hgd : o.guard = none) (s x : Operand)
    (ho : o.op = .call { callee := .builtin .append, args := #[s, x], argTypes := #[22, 22] })
    (B : Nat) (v : Value) (A N : List PairV) (hs : ac.eval s = v) (hown : OwnQ w B v A) (b off c : Nat) (hx : ac.eval x = .slice (some ⟨b, off, none⟩) N.length c)
    (hnews : PairsIn w (some ⟨b, off, none⟩) N) (hz : A.length + N.length ≤ 2000000) (hB : B ≤ w.heap.size)
    (h : ∀ v' w', OwnQ w' B v' (A ++ N) → Below B w w' → w.grownBy w' v.ownBlock → (∀ k, v'.ownBlock = some k → v.ownBlock = some k ∨ w.heap.size ≤ k) → wpList Try.prog ops Q rest (ac.put o.dst v') w') : wpList Try.prog ops Q (o :: rest) ac w := by
  obtain ⟨ii, hii, hi0, hi1, hi2⟩ := info_parts info_pair
  refine wpList_own_far _ hgd s x 22 ho B 24 ii _ 2 32 Try.underlying22 hii hi0 hi1 hi2 rfl (by decide) v A.length (A.flatMap pcells) hs hown ⟨b, off, none⟩ N.length c (N.flatMap pcells) hx (pcells_len N) (news_pairs hnews) (pcells_one N) (by unfold maxLen; omega) (by omega) hB ?_
  intro v' w' h1 h2 h3
  refine h v' w' ?_ ((Below.refl B w).grown h2 hB fun q hq => hown.blk q hq) h2 h3
  unfold OwnQ
  rw [List.length_append, List.flatMap_append]
  exact h1
end Go.Proofs.Ytaniekpkcihpiaa
