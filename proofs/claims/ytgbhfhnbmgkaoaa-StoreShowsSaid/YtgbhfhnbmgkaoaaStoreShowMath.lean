/-
  What shows of a store, in the values that the program has: it is what can be got, and its sessions' heads; how many show. No program is run here.
-/
import Derived.Test.YtgbhfhnbmgkaoaaPart09
import Derived.Test.YtgbhfhnbmgkaoaaPart08
namespace Go.Proofs.Ytgbhfhnbmgkaoaa
open Go.RowKit TextNat RegMath

theorem shows_in {xs : List RowV} {x : RowV} (hx : x ∈ showsV xs) : x.r ∈ StoreMath.shows (xs.map RowV.r) := by
  rw [shows_r]
  exact List.mem_map_of_mem hx
theorem shows_head_v {xs : List RowV} (h : StoreMath.Rising (xs.map RowV.r)) {x : RowV} (hx : x ∈ showsV xs) (hk : x.key.size = 0) : headV xs x.session = x.cell := by
  have h1 := StoreMath.shows_head h (shows_in hx) (List.length_eq_zero_iff.1 (show (nats x.key).length = 0 by rw [nats_len]; exact hk))
  have h2 : StoreMath.head (xs.map RowV.r) (nats x.session) = x.cell.c := h1
  rw [head_v] at h2
  exact RegV.c_one h2
theorem look_in_v {xs : List RowV} (h : StoreMath.Rising (xs.map RowV.r)) {x : RowV} (hx : x ∈ xs) : lookV xs x.session x.key = some x.cell := by
  have h1 := StoreMath.look_of_mem h (List.mem_map_of_mem (f := RowV.r) hx)
  have h2 : StoreMath.look (xs.map RowV.r) (nats x.session, nats x.key) = some x.cell.c := h1
  rw [look_v] at h2
  obtain ⟨c, hc, he⟩ := Option.map_eq_some_iff.1 h2
  rw [hc, RegV.c_one he]
theorem shows_got_v {xs : List RowV} (h : StoreMath.Rising (xs.map RowV.r)) {x : RowV} (hx : x ∈ showsV xs) (hk : ¬ x.key.size = 0) : gotV xs x.session x.key = .inl x.cell.value := by
  have hm := List.mem_filter.1 hx
  have hv := hm.2
  unfold showV at hv
  rw [Bool.and_eq_true] at hv
  unfold gotV
  rw [if_neg hk, if_neg (by rw [hv.2]; decide), look_in_v h hm.1]
  simp only
  rw [if_pos hv.1]
theorem sum_map_congr {α β : Type} {f : α → Nat} {g : β → Nat} {e : β → α} : ∀ {l : List β}, (∀ x ∈ l, f (e x) = g x) → ((l.map e).map f).sum = (l.map g).sum
  | [], _ => rfl
  | x :: l, h => by
    simp only [List.map_cons, List.sum_cons]
    rw [h x (by simp), sum_map_congr fun y hy => h y (by simp [hy])]
/-- As many show as live, and have keys. -/
theorem shows_count_v {xs : List RowV} (h : StoreMath.Rising (xs.map RowV.r)) : ((livesV xs).map fun s => 1 + (keysV xs s).length).sum = (showsV xs).length := by
  have h1 := StoreMath.shows_count h
  rw [lives_r, shows_r, List.length_map] at h1
  rw [← h1]
  symm
  exact sum_map_congr fun s _ => by rw [keys_r, List.length_map]
/-- How many are counted after so many sessions. -/
def countV (xs : List RowV) (i : Nat) : Nat := (((livesV xs).take i).map fun s => 1 + (keysV xs s).length).sum
theorem count_next {xs : List RowV} {i : Nat} {s : ByteArray} (h : (livesV xs)[i]? = some s) : countV xs (i + 1) = countV xs i + (1 + (keysV xs s).length) := by
  unfold countV
  rw [List.take_add_one, h, List.map_append, List.sum_append]
  simp
theorem count_all {xs : List RowV} (h : StoreMath.Rising (xs.map RowV.r)) : countV xs (livesV xs).length = (showsV xs).length := by
  unfold countV
  rw [List.take_length]
  exact shows_count_v h
theorem count_le (xs : List RowV) : ∀ i, countV xs i ≤ i * (1 + xs.length)
  | 0 => by simp [countV]
  | i + 1 => by
    cases h : (livesV xs)[i]? with
    | none =>
      have h1 : (livesV xs).take (i + 1) = (livesV xs).take i := by rw [List.take_add_one, h]; simp
      have h2 := count_le xs i
      unfold countV at h2 ⊢
      rw [h1]
      rw [Nat.succ_mul]
      omega
    | some s =>
      have h2 := count_le xs i
      have h3 : (keysV xs s).length ≤ xs.length := by
        unfold keysV
        rw [List.length_map]
        exact List.length_filter_le _ _
      rw [count_next h, Nat.succ_mul]
      omega
end Go.Proofs.Ytgbhfhnbmgkaoaa
