/-
  Texts of one claim, merged.
  RegLaws: Cells of registers as values and in memory; the contracts of the program's functions of chapter 15, as sentences that its laws start from. No conditions but those typed.
  AppFar: append onto a row of one's own of elements of any size, told where it lies: where it lay, or in a new block. For any program; no conditions but those typed.
  RowKeep: append onto a row of one's own of elements of any size, the row's old cells told, too; nil and empty sources allowed; as a step of a region that draws its order. For any program; no conditions but those typed.
-/
import Derived.Test.YtgbhfhnbmgkaoaaGreatDoorPart02
import Derived.Test.YtgbhfhnbmgkaoaaGreatDoorPart03
import Derived.Test.YtgbhfhnbmgkaoaaGreatDoorPart04
import Derived.Laws.AppendOwn
import Derived.Laws.OwnMore
import Derived.Below
import Derived.Test.YtgbhfhnbmgkaoaaGreatDoorProg
import Derived.Deep.RegionLaw
namespace Go.Proofs.YtgbhfhnbmgkaoaaGreatDoor
open Go.RowKit TextNat RegMath

/-- A register's cell as the program has it. -/
structure RegV where
  time : Int
  region : Int
  value : ByteArray
  gone : Bool
  life : Int
deriving DecidableEq
def RegV.cells (x : RegV) : List Value := [.int .i64 x.time, .int .i64 x.region, .string x.value, .bool x.gone, .int .i64 x.life]
def RegV.val (x : RegV) : Value := .agg #[.int .i64 x.time, .int .i64 x.region, .string x.value, .bool x.gone, .int .i64 x.life]
def RegV.c (x : RegV) : Cell := ⟨(x.time, x.region), nats x.value, x.gone, x.life⟩
def RegV.of (c : Cell) : RegV := ⟨c.st.1, c.st.2, txt c.val, c.gone, c.life⟩
theorem RegV.of_c (x : RegV) : RegV.of x.c = x := by
  unfold RegV.of RegV.c
  simp only [txt_nats]
theorem RegV.c_one {a b : RegV} (h : a.c = b.c) : a = b := by rw [← RegV.of_c a, ← RegV.of_c b, h]
theorem RegV.c_iff (a b : RegV) : a.c = b.c ↔ a = b := ⟨RegV.c_one, fun h => h ▸ rfl⟩
def zeroR : RegV := ⟨0, 0, ⟨#[]⟩, false, 0⟩
theorem zero_c : RegV.of zero = zeroR := rfl
/-- The one that wins. -/
def mergeV (l : List RegV) : RegV := RegV.of (merge (l.map RegV.c))
theorem merge_mem {l : List Cell} (h : l ≠ []) : merge l ∈ l := (merge_wins h).mem
theorem mergeV_mem {l : List RegV} (h : l ≠ []) : mergeV l ∈ l := by
  have h1 := merge_mem (l := l.map RegV.c) (by simpa using h)
  obtain ⟨x, hx, he⟩ := List.mem_map.1 h1
  unfold mergeV
  rw [← he, RegV.of_c]
  exact hx
theorem mergeV_c {l : List RegV} (h : l ≠ []) : (mergeV l).c = merge (l.map RegV.c) := by
  have h1 := merge_mem (l := l.map RegV.c) (by simpa using h)
  obtain ⟨x, hx, he⟩ := List.mem_map.1 h1
  unfold mergeV
  rw [← he, RegV.of_c]
/-- The cells xs stand from the address pp on, five places each. -/
def RegsIn (w : World) (pp : Option Addr) (xs : List RegV) : Prop := ∀ (i : Nat) (x : RegV), xs[i]? = some x → ∃ b off, pp = some ⟨b, off, none⟩ ∧ w.cell? ⟨b, off + i * 5, none⟩ = some (.int .i64 x.time) ∧ w.cell? ⟨b, off + i * 5 + 1, none⟩ = some (.int .i64 x.region) ∧ w.cell? ⟨b, off + i * 5 + 2, none⟩ = some (.string x.value) ∧ w.cell? ⟨b, off + i * 5 + 3, none⟩ = some (.bool x.gone) ∧ w.cell? ⟨b, off + i * 5 + 4, none⟩ = some (.int .i64 x.life)
theorem RegsIn.grown {w w' : World} {pp : Option Addr} {xs : List RegV} (h : RegsIn w pp xs) (hb : Below w.heap.size w w') : RegsIn w' pp xs := fun i a ha => by
  obtain ⟨b, off, hp, h0, h1, h2, h3, h4⟩ := h i a ha
  exact ⟨b, off, hp, (hb.cell (p := ⟨b, off + i * 5, none⟩) (World.block_lt_of_cell? w _ h0)).trans h0, (hb.cell (p := ⟨b, off + i * 5 + 1, none⟩) (World.block_lt_of_cell? w _ h1)).trans h1, (hb.cell (p := ⟨b, off + i * 5 + 2, none⟩) (World.block_lt_of_cell? w _ h2)).trans h2, (hb.cell (p := ⟨b, off + i * 5 + 3, none⟩) (World.block_lt_of_cell? w _ h3)).trans h3, (hb.cell (p := ⟨b, off + i * 5 + 4, none⟩) (World.block_lt_of_cell? w _ h4)).trans h4⟩
theorem RegsIn.addr {w : World} {pp : Option Addr} {xs : List RegV} (h : RegsIn w pp xs) (h0 : 0 < xs.length) : ∃ b off, pp = some ⟨b, off, none⟩ := by
  obtain ⟨b, off, hp, _⟩ := h 0 _ (List.getElem?_eq_getElem h0)
  exact ⟨b, off, hp⟩
theorem RegsIn.look {w : World} {b off : Nat} {xs : List RegV} (h : RegsIn w (some ⟨b, off, none⟩) xs) {i : Nat} {x : RegV} (hx : xs[i]? = some x) : w.cell? ⟨b, off + i * 5, none⟩ = some (.int .i64 x.time) ∧ w.cell? ⟨b, off + i * 5 + 1, none⟩ = some (.int .i64 x.region) ∧ w.cell? ⟨b, off + i * 5 + 2, none⟩ = some (.string x.value) ∧ w.cell? ⟨b, off + i * 5 + 3, none⟩ = some (.bool x.gone) ∧ w.cell? ⟨b, off + i * 5 + 4, none⟩ = some (.int .i64 x.life) := by
  obtain ⟨b', off', hp, hh⟩ := h i x hx
  obtain ⟨rfl, rfl⟩ : b = b' ∧ off = off' := by simpa using hp
  exact hh
/-- A piece of them. -/
theorem RegsIn.piece {w : World} {b off : Nat} {xs : List RegV} (h : RegsIn w (some ⟨b, off, none⟩) xs) (a n : Nat) : RegsIn w (some ⟨b, off + a * 5, none⟩) ((xs.drop a).take n) := fun i x hx => by
  rw [List.getElem?_take] at hx
  split at hx
  · rw [List.getElem?_drop] at hx
    obtain ⟨h0, h1, h2, h3, h4⟩ := h.look hx
    have e : off + a * 5 + i * 5 = off + (a + i) * 5 := by omega
    exact ⟨b, off + a * 5, rfl, by rw [e]; exact h0, by rw [e]; exact h1, by rw [e]; exact h2, by rw [e]; exact h3, by rw [e]; exact h4⟩
  · cases hx
/-- '==' of two cells. -/
theorem eql_reg (a b : RegV) (w : World) : (binOp .eql 58 a.val b.val).run Tryz.prog w = .ok (.bool (decide (a = b))) w := by
  obtain ⟨a1, a2, a3, a4, a5⟩ := a
  obtain ⟨b1, b2, b3, b4, b5⟩ := b
  unfold RegV.val
  by_cases h1 : a1 = b1
  · by_cases h2 : a2 = b2
    · by_cases h3 : a3 = b3
      · by_cases h4 : a4 = b4
        · by_cases h5 : a5 = b5
          · subst h1; subst h2; subst h3; subst h4; subst h5
            rw [decide_eq_true rfl]
            go_simp
          · rw [decide_eq_false (by simp [h5])]
            subst h1; subst h2; subst h3; subst h4
            go_simp
        · rw [decide_eq_false (by simp [h4])]
          subst h1; subst h2; subst h3
          go_simp
      · rw [decide_eq_false (by simp [h3])]
        have k := text_list h3
        subst h1; subst h2
        go_simp
    · rw [decide_eq_false (by simp [h2])]
      subst h1
      go_simp
  · rw [decide_eq_false (by simp [h1])]
    go_simp
def AboveOk : Prop := ∀ (a b : RegV) (w : World), Calls Tryz.prog 60 #[a.val, b.val] w fun e w' => e = .returned (.bool (above a.c b.c)) ∧ Below w.heap.size w w'
/-- Values that a machine can hold. -/
def ShortR (xs : List RegV) : Prop := ∀ x ∈ xs, x.value.size ≤ 281474976710656
theorem ShortR.mem {xs ys : List RegV} (h : ShortR xs) (hs : ∀ y ∈ ys, y ∈ xs) : ShortR ys := fun y hy => h y (hs y hy)
theorem ShortR.one {xs : List RegV} (h : ShortR xs) (hn : xs ≠ []) : (mergeV xs).value.size ≤ 281474976710656 := h _ (mergeV_mem hn)
theorem ShortR.two {a b : RegV} (ha : a.value.size ≤ 281474976710656) (hb : b.value.size ≤ 281474976710656) : ShortR [a, b] := fun y hy => by
  rcases List.mem_cons.1 hy with rfl | hy
  · exact ha
  · rw [List.mem_singleton.1 hy]; exact hb
def MergeOk : Prop := ∀ (pp : Option Addr) (cap : Nat) (xs : List RegV) (w : World), RegsIn w pp xs → xs.length ≤ cap → cap ≤ 9223372036854775807 → xs.length ≤ 1000 → ShortR xs → Calls Tryz.prog 41 #[.slice pp xs.length cap] w fun e w' => e = .returned (mergeV xs).val ∧ Below w.heap.size w w'
def VisibleOk : Prop := ∀ (a : RegV) (w : World), Calls Tryz.prog 45 #[a.val] w fun e w' => e = .returned (.bool (decide (0 < a.time) && !a.gone)) ∧ Below w.heap.size w w'
end Go.Proofs.YtgbhfhnbmgkaoaaGreatDoor
namespace Go.Proofs.YtgbhfhnbmgkaoaaGreatDoor
open Go.RowKit

section
variable {P : Program} (w : World)
theorem ownsRow_weaken {w : World} {base base' size n : Nat} {e : TypeId} {v : Value} {xs : List Value} (h : w.ownsRow base e size v n xs) (hb : base' ≤ base) : w.ownsRow base' e size v n xs := by
  refine ⟨h.1, ?_⟩
  rcases h.2 with h2 | ⟨g, cap, cur, h3, h4, h5⟩
  · exact .inl h2
  · exact .inr ⟨g, cap, cur, h3, Nat.le_trans hb h4, h5⟩
theorem run_own_far (base : Nat) (t ty e : TypeId) (i : TypeInfo) (z : Value) (size bytes : Nat) (ht : P.underlying t = some (.slice e)) (hi : P.info? e = some i) (hz : i.zero = some z)
    (hsize : i.size = size) (hby : i.bytes = bytes) (hzs : z.cells.size = size) (hsz : 0 < size)
    (v : Value) (n : Nat) (xs : List Value) (hown : w.ownsRow base e size v n xs)
    (a : Addr) (m c : Nat) (news : List Value) (hl : news.length = m * size) (hnews : ∀ j u, news[j]? = some u → w.cell? (a.add j) = some u) (h1 : ∀ u ∈ news, u.oneCell' = true)
    (h63 : n + m ≤ maxLen) (hbytes : (n + m) * bytes ≤ 140737488355328) (hbase : base ≤ w.heap.size) :
    ∃ v' w', (Builtin.append_ #[t, t] ty #[v, .slice (some a) m c]).run P w = .ok v' w' ∧ w'.ownsRow base e size v' (n + m) (xs ++ news) ∧ w.grownBy w' v.ownBlock ∧
      ∀ k, v'.ownBlock = some k → v.ownBlock = some k ∨ w.heap.size ≤ k := by
  rcases hown.2 with ⟨rfl, rfl⟩ | ⟨g, cap, cur, rfl, hbg, hg, hnc, hcm, hcs, htake⟩
  · have hx : xs = [] := List.eq_nil_of_length_eq_zero (by simpa using hown.1)
    subst hx
    obtain ⟨v', w', h2, h3, h4, _⟩ := run_append_own (P := P) w w.heap.size t ty e i z size bytes ht hi hz hsize hby hzs hsz (.slice none 0 0) 0 [] (World.ownsRow_nil w w.heap.size e size) a m c news hl hnews h1 h63 hbytes (Nat.le_refl _)
    exact ⟨v', w', h2, ownsRow_weaken h3 hbase, h4, fun k hk => .inr (h3.lt k hk).1⟩
  · obtain ⟨v', w', h2, h3, h4, _⟩ := run_append_own (P := P) w base t ty e i z size bytes ht hi hz hsize hby hzs hsz _ n xs hown a m c news hl hnews h1 h63 hbytes hbase
    refine ⟨v', w', h2, h3, h4, fun k hk => ?_⟩
    subst hsize
    subst hby
    by_cases hroom : n + m ≤ cap
    · have hfit : n * i.size + news.length ≤ cur.size := by rw [hl, hcs, ← Nat.add_mul]; exact Nat.mul_le_mul_right _ hroom
      have hr := run_append_room (P := P) w t ty e i ht hi g n cap cur hg a m c news hl hnews h1 hroom hfit
      rw [h2] at hr
      obtain ⟨rfl, _⟩ : v' = .slice (some ⟨g, 0, none⟩) (n + m) cap ∧ w' = _ := by simpa using hr
      exact .inl hk
    · have hsmall : n + m ≤ 9223372036854775807 := by simp only [maxLen] at h63; omega
      have holds : ∀ j u, xs[j]? = some u → w.cell? ((⟨g, 0, none⟩ : Addr).add j) = some u := hown.cells (g := g) rfl
      have hr := run_append_grow (P := P) w t ty e i z ht hi hz ⟨g, 0, none⟩ n cap xs hown.1 holds a m c news hl hnews (by omega) (by omega) (growslice_fits (by omega) hbytes)
      rw [h2] at hr
      obtain ⟨rfl, _⟩ : v' = .slice (some ⟨w.heap.size, 0, none⟩) (n + m) _ ∧ w' = _ := by simpa using hr
      refine .inr ?_
      simp [Value.ownBlock] at hk
      omega
theorem wpList_own_far {ops : Array Oper} {rest : List Oper} {o : Oper} {a : Act} {Q : Exit → Act → World → Prop} (hgd : o.guard = none) (s x : Operand) (t : TypeId)
    (ho : o.op = .call { callee := .builtin .append, args := #[s, x], argTypes := #[t, t] })
    (base : Nat) (e : TypeId) (i : TypeInfo) (z : Value) (size bytes : Nat) (ht : P.underlying t = some (.slice e)) (hi : P.info? e = some i) (hz : i.zero = some z)
    (hsize : i.size = size) (hby : i.bytes = bytes) (hzs : z.cells.size = size) (hsz : 0 < size)
    (v : Value) (n : Nat) (xs : List Value) (hs : a.eval s = v) (hown : w.ownsRow base e size v n xs)
    (ad : Addr) (m c : Nat) (news : List Value) (hx : a.eval x = .slice (some ad) m c) (hl : news.length = m * size) (hnews : ∀ j u, news[j]? = some u → w.cell? (ad.add j) = some u) (h1 : ∀ u ∈ news, u.oneCell' = true)
    (h63 : n + m ≤ maxLen) (hbytes : (n + m) * bytes ≤ 140737488355328) (hbase : base ≤ w.heap.size)
    (h : ∀ v' w', w'.ownsRow base e size v' (n + m) (xs ++ news) → w.grownBy w' v.ownBlock → (∀ k, v'.ownBlock = some k → v.ownBlock = some k ∨ w.heap.size ≤ k) → wpList P ops Q rest (a.put o.dst v') w') : wpList P ops Q (o :: rest) a w := by
  refine wpList_plain hgd fun K hK => ?_
  obtain ⟨v', w', hr, h2, h3, h4⟩ := run_own_far (P := P) w base t o.type e i z size bytes ht hi hz hsize hby hzs hsz v n xs hown ad m c news hl hnews h1 h63 hbytes hbase
  unfold Oper.wp execOp
  simp only [ho, resolve, invoke, builtin, Sem.run_bind, Sem.run_pure, Result.andThen_ok, List.map_toArray, List.map_cons, List.map_nil, hs, hx, hr]
  exact hK _ _ (h v' w' h2 h3 h4)
end
end Go.Proofs.YtgbhfhnbmgkaoaaGreatDoor
namespace Go.Proofs.YtgbhfhnbmgkaoaaGreatDoor
open Go.RowKit

section
variable {P : Program}
theorem run_append_none (t ty e : TypeId) (i : TypeInfo) (ht : P.underlying t = some (.slice e)) (hi : P.info? e = some i) (b pp : Option Addr) (n c c2 : Nat) (h : n ≤ c) (w : World) :
    (Builtin.append_ #[t, t] ty #[.slice b n c, .slice pp 0 c2]).run P w = .ok (.slice b n c) w := by
  cases b <;> cases pp <;> simp [Builtin.append_, run_underlying ht, sizeOf, typeInfo, hi, Builtin.lenOf, Builtin.firstCells, loadCells, loadCellsFrom, h, storeCells]
theorem row_shape {w : World} {base size n : Nat} {e : TypeId} {v : Value} {xs : List Value} (h : w.ownsRow base e size v n xs) : ∃ p c, v = .slice p n c ∧ n ≤ c := by
  rcases h.2 with ⟨rfl, rfl⟩ | ⟨g, cap, cur, rfl, _, _, h1, _⟩
  · exact ⟨none, 0, rfl, Nat.le_refl _⟩
  · exact ⟨_, _, rfl, h1⟩
theorem row_front {w : World} {base size n m cap g : Nat} {e : TypeId} {xs news : List Value} (hx : xs.length = n * size) (h : w.ownsRow base e size (.slice (some ⟨g, 0, none⟩) (n + m) cap) (n + m) (xs ++ news)) : w.ownsRow base e size (.slice (some ⟨g, 0, none⟩) n cap) n xs := by
  refine ⟨hx, .inr ?_⟩
  rcases h.2 with ⟨h1, _⟩ | ⟨g', cap', cur, h1, h2, h3, h4, h5, h6, h7⟩
  · simp at h1
  · simp at h1
    obtain ⟨rfl, rfl⟩ := h1
    refine ⟨g, cap, cur, rfl, h2, h3, by omega, h5, h6, ?_⟩
    have h8 := congrArg (List.take (n * size)) h7
    rw [List.take_take, Nat.min_eq_left (Nat.mul_le_mul_right _ (Nat.le_add_right _ _)), ← hx, List.take_left] at h8
    rw [← hx]
    exact h8
theorem run_own_keep (w : World) (base : Nat) (t ty e : TypeId) (i : TypeInfo) (z : Value) (size bytes : Nat) (ht : P.underlying t = some (.slice e)) (hi : P.info? e = some i) (hz : i.zero = some z)
    (hsize : i.size = size) (hby : i.bytes = bytes) (hzs : z.cells.size = size) (hsz : 0 < size)
    (v : Value) (n : Nat) (xs : List Value) (hown : w.ownsRow base e size v n xs)
    (pp : Option Addr) (m c : Nat) (news : List Value) (hl : news.length = m * size) (hnews : ∀ j u, news[j]? = some u → ∃ a, pp = some a ∧ w.cell? (a.add j) = some u) (h1 : ∀ u ∈ news, u.oneCell' = true)
    (h63 : n + m ≤ maxLen) (hbytes : (n + m) * bytes ≤ 140737488355328) (hbase : base ≤ w.heap.size) :
    ∃ v' w', (Builtin.append_ #[t, t] ty #[v, .slice pp m c]).run P w = .ok v' w' ∧ w'.ownsRow base e size v' (n + m) (xs ++ news) ∧ w.grownBy w' v.ownBlock ∧
      (∀ k, v'.ownBlock = some k → v.ownBlock = some k ∨ w.heap.size ≤ k) ∧ w'.ownsRow base e size v n xs := by
  by_cases hm : m = 0
  · subst hm
    obtain rfl : news = [] := List.eq_nil_of_length_eq_zero (by omega)
    obtain ⟨p0, c0, rfl, hc0⟩ := row_shape hown
    exact ⟨_, w, run_append_none _ _ _ i ht hi _ _ _ _ _ hc0 w, by rw [List.append_nil]; exact hown, ⟨rfl, rfl, rfl, Nat.le_refl _, fun _ _ _ => rfl⟩, fun k hk => .inl hk, hown⟩
  have h0 : 0 < news.length := by rw [hl]; exact Nat.mul_pos (by omega) hsz
  obtain ⟨a, rfl, _⟩ := hnews 0 _ (List.getElem?_eq_getElem h0)
  have hnews2 : ∀ j u, news[j]? = some u → w.cell? (a.add j) = some u := fun j u hu => by
    obtain ⟨a2, ha, hc⟩ := hnews j u hu
    obtain rfl := Option.some.inj ha
    exact hc
  obtain ⟨v', w', h2, h3, h4, h5⟩ := run_own_far (P := P) w base t ty e i z size bytes ht hi hz hsize hby hzs hsz v n xs hown a m c news hl hnews2 h1 h63 hbytes hbase
  refine ⟨v', w', h2, h3, h4, h5, ?_⟩
  rcases hown.2 with ⟨rfl, rfl⟩ | ⟨g, cap, cur, rfl, hbg, hg, hnc, hcm, hcs, htake⟩
  · have hx : xs = [] := List.eq_nil_of_length_eq_zero (by simpa using hown.1)
    subst hx
    exact World.ownsRow_nil _ _ _ _
  · subst hsize
    subst hby
    by_cases hroom : n + m ≤ cap
    · have hfit : n * i.size + news.length ≤ cur.size := by rw [hl, hcs, ← Nat.add_mul]; exact Nat.mul_le_mul_right _ hroom
      have hr := run_append_room (P := P) w t ty e i ht hi g n cap cur hg a m c news hl hnews2 h1 hroom hfit
      rw [h2] at hr
      obtain ⟨rfl, _⟩ : v' = .slice (some ⟨g, 0, none⟩) (n + m) cap ∧ w' = _ := by simpa using hr
      exact row_front hown.1 h3
    · have hsmall : n + m ≤ 9223372036854775807 := by simp only [maxLen] at h63; omega
      have holds : ∀ j u, xs[j]? = some u → w.cell? ((⟨g, 0, none⟩ : Addr).add j) = some u := hown.cells (g := g) rfl
      have hr := run_append_grow (P := P) w t ty e i z ht hi hz ⟨g, 0, none⟩ n cap xs hown.1 holds a m c news hl hnews2 (by omega) (by omega) (growslice_fits (by omega) hbytes)
      rw [h2] at hr
      obtain ⟨_, rfl⟩ : v' = _ ∧ w' = w.drew.alloc _ := by simpa using hr
      exact World.ownsRow.alloc (w := w.drew) hown _
/-- As one operation of a statement. -/
theorem wpList_keep {ops : Array Oper} {rest : List Oper} {o : Oper} {ac : Act} {Q : Exit → Act → World → Prop} {w : World} (hgd : o.guard = none) (s x : Operand) (t : TypeId)
    (ho : o.op = .call { callee := .builtin .append, args := #[s, x], argTypes := #[t, t] })
    (base : Nat) (e : TypeId) (i : TypeInfo) (z : Value) (size bytes : Nat) (ht : P.underlying t = some (.slice e)) (hi : P.info? e = some i) (hz : i.zero = some z)
    (hsize : i.size = size) (hby : i.bytes = bytes) (hzs : z.cells.size = size) (hsz : 0 < size)
    (v : Value) (n : Nat) (xs : List Value) (hs : ac.eval s = v) (hown : w.ownsRow base e size v n xs)
    (pp : Option Addr) (m c : Nat) (news : List Value) (hx : ac.eval x = .slice pp m c) (hl : news.length = m * size) (hnews : ∀ j u, news[j]? = some u → ∃ a, pp = some a ∧ w.cell? (a.add j) = some u) (h1 : ∀ u ∈ news, u.oneCell' = true)
    (h63 : n + m ≤ maxLen) (hbytes : (n + m) * bytes ≤ 140737488355328) (hbase : base ≤ w.heap.size)
    (h : ∀ v' w', w'.ownsRow base e size v' (n + m) (xs ++ news) → w.grownBy w' v.ownBlock → (∀ k, v'.ownBlock = some k → v.ownBlock = some k ∨ w.heap.size ≤ k) → w'.ownsRow base e size v n xs → wpList P ops Q rest (ac.put o.dst v') w') : wpList P ops Q (o :: rest) ac w := by
  refine wpList_plain hgd fun K hK => ?_
  obtain ⟨v', w', hr, h2, h3, h4, h5⟩ := run_own_keep (P := P) w base t o.type e i z size bytes ht hi hz hsize hby hzs hsz v n xs hown pp m c news hl hnews h1 h63 hbytes hbase
  unfold Oper.wp execOp
  simp only [ho, resolve, invoke, builtin, Sem.run_bind, Sem.run_pure, Result.andThen_ok, List.map_toArray, List.map_cons, List.map_nil, hs, hx, hr]
  exact hK _ _ (h v' w' h2 h3 h4 h5)
/-- As a step of a region that draws its order. -/
theorem step_keep {ops : Array Oper} {o : Oper} {ac : Act} {K : Act → World → Prop} {Q : Exit → Act → World → Prop} {E : Prop} {w : World} (hw : Region.wanted o (yielded ops ac.tmps) = true) (s x : Operand) (t : TypeId)
    (ho : o.op = .call { callee := .builtin .append, args := #[s, x], argTypes := #[t, t] })
    (base : Nat) (e : TypeId) (i : TypeInfo) (z : Value) (size bytes : Nat) (ht : P.underlying t = some (.slice e)) (hi : P.info? e = some i) (hz : i.zero = some z)
    (hsize : i.size = size) (hby : i.bytes = bytes) (hzs : z.cells.size = size) (hsz : 0 < size)
    (v : Value) (n : Nat) (xs : List Value) (hs : ac.eval s = v) (hown : w.ownsRow base e size v n xs)
    (pp : Option Addr) (m c : Nat) (news : List Value) (hx : ac.eval x = .slice pp m c) (hl : news.length = m * size) (hnews : ∀ j u, news[j]? = some u → ∃ a, pp = some a ∧ w.cell? (a.add j) = some u) (h1 : ∀ u ∈ news, u.oneCell' = true)
    (h63 : n + m ≤ maxLen) (hbytes : (n + m) * bytes ≤ 140737488355328) (hbase : base ≤ w.heap.size)
    (h : ∀ v' w', w'.ownsRow base e size v' (n + m) (xs ++ news) → w.grownBy w' v.ownBlock → (∀ k, v'.ownBlock = some k → v.ownBlock = some k ∨ w.heap.size ≤ k) → w'.ownsRow base e size v n xs → K (ac.put o.dst v') w') : if Region.wanted o (yielded ops ac.tmps) = true then Oper.wp P o ac w K Q else E := by
  rw [if_pos hw]
  obtain ⟨v', w', hr, h2, h3, h4, h5⟩ := run_own_keep (P := P) w base t o.type e i z size bytes ht hi hz hsize hby hzs hsz v n xs hown pp m c news hl hnews h1 h63 hbytes hbase
  unfold Oper.wp execOp
  simp only [ho, resolve, invoke, builtin, Sem.run_bind, Sem.run_pure, Result.andThen_ok, List.map_toArray, List.map_cons, List.map_nil, hs, hx, hr]
  exact h v' w' h2 h3 h4 h5
end
end Go.Proofs.YtgbhfhnbmgkaoaaGreatDoor
