/-
  Plain mathematics of chapter 9: a payload's frame, what stands at a place of a text. No program, no conditions but those typed.
-/
import Derived.Test.YtjijlfohlmhlkaaDoorCrcMath
namespace FrameMath
open CrcMath
def four (s : Nat) : List Nat := [s % 256, s / 256 % 256, s / 65536 % 256, s / 16777216]
def head (n : Nat) : List Nat := [n / 256, n % 256]
def rawF (p : List Nat) : List Nat := head p.length ++ four (sum (head p.length)) ++ p ++ four (sum (head p.length ++ p))
def nibs : List Nat → List Nat
  | [] => []
  | b :: r => (64 + b / 16) :: (64 + b % 16) :: nibs r
def framed (p : List Nat) : List Nat := 1 :: nibs (rawF p)
/-- What is read of pairs of letters, as far as they are such. -/
def bytesOf : List Nat → List Nat
  | a :: b :: r => if 64 ≤ a ∧ a < 80 ∧ 64 ≤ b ∧ b < 80 then (16 * (a - 64) + (b - 64)) :: bytesOf r else []
  | _ => []
def Oct (l : List Nat) : Prop := ∀ b ∈ l, b < 256
theorem four_len (s : Nat) : (four s).length = 4 := rfl
theorem head_len (n : Nat) : (head n).length = 2 := rfl
theorem nibs_len : ∀ l : List Nat, (nibs l).length = 2 * l.length
  | [] => rfl
  | _ :: r => by
    show (nibs r).length + 1 + 1 = 2 * (r.length + 1)
    rw [nibs_len r]
    omega
theorem rawF_len (p : List Nat) : (rawF p).length = 10 + p.length := by
  unfold rawF
  simp [four_len, head_len]
  omega
theorem framed_len (p : List Nat) : (framed p).length = 21 + 2 * p.length := by
  show (nibs (rawF p)).length + 1 = _
  rw [nibs_len, rawF_len]
  omega
theorem four_bytes {s : Nat} (h : s < 2 ^ 32) : Oct (four s) := by
  intro b hb
  simp [four] at hb
  omega
theorem head_bytes {n : Nat} (h : n ≤ 65535) : Oct (head n) := by
  intro b hb
  simp [head] at hb
  omega
theorem Oct.append {a b : List Nat} (ha : Oct a) (hb : Oct b) : Oct (a ++ b) := fun x hx => by
  rcases List.mem_append.1 hx with h | h
  · exact ha x h
  · exact hb x h
theorem rawF_bytes {p : List Nat} (h : p.length ≤ 65535) (hp : Oct p) : Oct (rawF p) :=
  (((head_bytes h).append (four_bytes (sum_lt _))).append hp).append (four_bytes (sum_lt _))
theorem bytesOf_nibs : ∀ (l m : List Nat), Oct l → bytesOf (nibs l ++ m) = l ++ bytesOf m
  | [], _, _ => rfl
  | b :: r, m, h => by
    have hb := h b (by simp)
    show bytesOf ((64 + b / 16) :: (64 + b % 16) :: (nibs r ++ m)) = b :: (r ++ bytesOf m)
    rw [bytesOf, if_pos (by omega), bytesOf_nibs r m (fun x hx => h x (by simp [hx]))]
    congr 1
    omega
theorem nibs_bytesOf : ∀ (n : Nat) (l : List Nat), n ≤ (bytesOf l).length → l.take (2 * n) = nibs ((bytesOf l).take n)
  | 0, _, _ => by simp [nibs]
  | n + 1, [], h => by simp [bytesOf] at h
  | n + 1, [_], h => by simp [bytesOf] at h
  | n + 1, a :: b :: r, h => by
    unfold bytesOf at h ⊢
    split at h
    · rename_i hc
      rw [if_pos hc]
      rw [List.length_cons] at h
      rw [show 2 * (n + 1) = 2 * n + 1 + 1 by omega, List.take_succ_cons, List.take_succ_cons, List.take_succ_cons, nibs, nibs_bytesOf n r (by omega)]
      congr 1
      · omega
      · congr 1
        omega
    · simp at h
theorem nibs_append : ∀ a b : List Nat, nibs (a ++ b) = nibs a ++ nibs b
  | [], _ => rfl
  | x :: a, b => by
    show _ :: _ :: nibs (a ++ b) = _ :: _ :: (nibs a ++ nibs b)
    rw [nibs_append a b]
theorem nibs_inj : ∀ a b : List Nat, nibs a = nibs b → a = b
  | [], [], _ => rfl
  | [], _ :: _, h => by simp [nibs] at h
  | _ :: _, [], h => by simp [nibs] at h
  | x :: a, y :: b, h => by
    simp only [nibs, List.cons.injEq] at h
    rw [nibs_inj a b h.2.2]
    congr 1
    omega
theorem nibs_mem : ∀ {l : List Nat}, Oct l → ∀ b ∈ nibs l, 64 ≤ b ∧ b < 80
  | [], _, b, hb => by simp [nibs] at hb
  | x :: r, h, b, hb => by
    have hx := h x (by simp)
    simp only [nibs, List.mem_cons] at hb
    rcases hb with rfl | rfl | hb
    · omega
    · omega
    · exact nibs_mem (fun y hy => h y (by simp [hy])) b hb
/-- Does a frame stand at the beginning? -/
def stands (l : List Nat) : Option (List Nat) :=
  match l with
  | 1 :: r =>
    let raw := bytesOf r
    let n := raw.getD 0 0 * 256 + raw.getD 1 0
    if raw.length < 10 then none
    else if 8192 < n ∨ raw.length - 10 < n then none
    else if rawF ((raw.drop 6).take n) = raw.take (10 + n) then some ((raw.drop 6).take n) else none
  | _ => none
theorem stands_framed {p : List Nat} (h : p.length ≤ 8192) (hp : Oct p) (m : List Nat) : stands (framed p ++ m) = some p := by
  have hb : bytesOf (nibs (rawF p) ++ m) = rawF p ++ bytesOf m := bytesOf_nibs _ _ (rawF_bytes (by omega) hp)
  have hl := rawF_len p
  show stands (1 :: (nibs (rawF p) ++ m)) = _
  unfold stands
  simp only []
  rw [hb]
  have h0 : (rawF p ++ bytesOf m).getD 0 0 = p.length / 256 := by simp [rawF, head]
  have h1 : (rawF p ++ bytesOf m).getD 1 0 = p.length % 256 := by simp [rawF, head]
  rw [h0, h1]
  have hn : p.length / 256 * 256 + p.length % 256 = p.length := by omega
  rw [hn, if_neg (by rw [List.length_append]; omega), if_neg (by rw [List.length_append]; omega)]
  have hd : ((rawF p ++ bytesOf m).drop 6).take p.length = p := by
    have : rawF p ++ bytesOf m = (head p.length ++ four (sum (head p.length))) ++ (p ++ (four (sum (head p.length ++ p)) ++ bytesOf m)) := by
      unfold rawF
      simp [List.append_assoc]
    rw [this, List.drop_left' (by simp [head, four]), List.take_left' rfl]
  rw [hd, if_pos (by rw [List.take_left' (by rw [rawF_len])])]
theorem stands_is {l p : List Nat} (h : stands l = some p) : ∃ m, l = framed p ++ m ∧ p.length ≤ 8192 := by
  unfold stands at h
  split at h
  · rename_i r
    simp only [] at h
    split at h
    · cases h
    · rename_i h10
      split at h
      · cases h
      · rename_i hn
        split at h
        · rename_i hr
          obtain rfl := Option.some.inj h
          have hnn : (bytesOf r).getD 0 0 * 256 + (bytesOf r).getD 1 0 ≤ (bytesOf r).length - 10 := by omega
          have h8 : (bytesOf r).getD 0 0 * 256 + (bytesOf r).getD 1 0 ≤ 8192 := by omega
          generalize (bytesOf r).getD 0 0 * 256 + (bytesOf r).getD 1 0 = n at *
          refine ⟨r.drop (2 * (10 + n)), ?_, by rw [List.length_take]; omega⟩
          have h2 := nibs_bytesOf (10 + n) r (by omega)
          show 1 :: r = 1 :: (nibs (rawF _) ++ _)
          rw [hr, ← h2, List.take_append_drop]
        · cases h
  · cases h
/-- Just one payload's frame is there. -/
theorem framed_one {p q x y : List Nat} (hp : p.length ≤ 8192) (hq : q.length ≤ 8192) (bp : Oct p) (bq : Oct q) (h : framed p ++ x = framed q ++ y) : p = q := by
  have h1 := stands_framed hp bp x
  rw [h, stands_framed hq bq y] at h1
  exact (Option.some.inj h1).symm
theorem four_inj {s t : Nat} (h : four s = four t) : s = t := by
  simp [four] at h
  omega
theorem head_inj {n m : Nat} (h : head n = head m) : n = m := by
  simp [head] at h
  omega
/-- The bytes of what stands there are bytes. -/
theorem stands_bytes {l p : List Nat} (h : stands l = some p) (hl : Oct l) : Oct p := by
  obtain ⟨m, rfl, _⟩ := stands_is h
  unfold stands at h
  have hb : ∀ l : List Nat, Oct (bytesOf l) := by
    intro l
    induction l using bytesOf.induct with
    | case1 a b r hc ih =>
      unfold bytesOf
      rw [if_pos hc]
      intro x hx
      rcases List.mem_cons.1 hx with rfl | hx
      · omega
      · exact ih x hx
    | case2 a b r hc =>
      unfold bytesOf
      rw [if_neg hc]
      intro x hx
      cases hx
    | case3 l hl =>
      intro x hx
      unfold bytesOf at hx
      split at hx
      · rename_i a b r
        exact absurd rfl (hl a b r)
      · cases hx
  split at h
  · rename_i r hr
    simp only [] at h
    split at h
    · cases h
    · split at h
      · cases h
      · split at h
        · obtain rfl := Option.some.inj h
          intro x hx
          exact hb _ x (List.mem_of_mem_drop (List.mem_of_mem_take hx))
        · cases h
  · cases h
end FrameMath
