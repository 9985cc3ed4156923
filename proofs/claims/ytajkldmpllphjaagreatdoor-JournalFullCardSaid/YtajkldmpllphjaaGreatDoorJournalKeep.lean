/-
  What Put and Start come to under a fuse, for chapter 10's laws. The conditions: the program's contracts.
-/
import Derived.Test.YtajkldmpllphjaaGreatDoorJournalFull
namespace Go.Proofs.YtajkldmpllphjaaGreatDoor
open Go.RowKit BlockMath TextNat JournalMath

theorem OpsIn.tx {w : World} {pp : Option Addr} {xs : List Op} (h : OpsIn w pp xs) {i : Nat} {x : Op} (hx : xs[i]? = some x) : TextsIn w x.lp x.l := by
  obtain ⟨_, _, _, _, h3⟩ := h i x hx
  exact h3
theorem take_same {α : Type} (l : List α) (k : Nat) : l.take k = l.take (l.take k).length := by
  rw [List.length_take]
  rcases Nat.le_total k l.length with h | h
  · rw [Nat.min_eq_left h]
  · rw [Nat.min_eq_right h, List.take_of_length_le h, List.take_length]
/-- Where the law stands while calls go on: the journal, its devices, the row of what is acknowledged; F: blocks of others. -/
structure StandF (D : Dev) (J : Jrn) (B : Nat) (w : World) (p ba bb : Nat) (v : Value) (hv : List ByteArray) (m : Nat) (F : Nat → Prop) : Prop where
  is : ∃ j S, Trio D J w p ba bb S j ∧ (∀ k, S k → B ≤ k) ∧ RowT w B v hv ∧ (∀ k, v.ownBlock = some k → ¬ S k) ∧ Live j (hv.map nats) ∧ hv.length ≤ m ∧ (∀ k, F k → ¬ S k)
/-- What Open tells behind a crash. -/
def Told (hv un : List ByteArray) (an : Bool) (l : List (List Nat)) : Prop := if an then (l = hv.map nats ∨ l = un.map nats) else ∃ k, l = (hv ++ un.take k).map nats
/-- Where the law stands when calls are over. -/
structure Over (D : Dev) (B : Nat) (w : World) (ba bb : Nat) (v : Value) (hv un : List ByteArray) (an : Bool) (m : Nat) (F : Nat → Prop) : Prop where
  is : ∃ a b S, Duo D w ba bb S a b ∧ (∀ k, S k → B ≤ k) ∧ RowT w B v hv ∧ (∀ k, v.ownBlock = some k → ¬ S k) ∧ hv.length + un.length ≤ m ∧ (∀ k, F k → ¬ S k) ∧
    ∀ (k1 k2 : Int) (m1 m2 : ByteArray), ∃ j l, opened (crash k1 m1 a) (crash k2 m2 b) = (0, l, j) ∧ Live j l ∧ j.a.fuse = -1 ∧ j.b.fuse = -1 ∧ Told hv un an l
section
variable {D : Dev} {J : Jrn} {B p ba bb m cap : Nat} {w w' : World} {v : Value} {hv xs : List ByteArray} {F : Nat → Prop} {pp : Option Addr}
theorem StandF.below (h : StandF D J B w p ba bb v hv m F) (hb : Below w.heap.size w w') : StandF D J B w' p ba bb v hv m F := by
  obtain ⟨j, S, h1, h2, h3, h4⟩ := h.is
  exact ⟨j, S, h1.stays hb.size fun k hk => hb.block k (h1.lt k hk), h2, h3.below hb, h4⟩
theorem StandF.least (h : StandF D J B w p ba bb v hv m F) {m2 : Nat} (hm : m ≤ m2) : StandF D J B w p ba bb v hv m2 F := by
  obtain ⟨j, S, h1, h2, h3, h4, h5, h6, h7⟩ := h.is
  exact ⟨j, S, h1, h2, h3, h4, h5, Nat.le_trans h6 hm, h7⟩
theorem StandF.free (h : StandF D J B w p ba bb v hv m F) : StandF D J B w p ba bb v hv m fun _ => False := by
  obtain ⟨j, S, h1, h2, h3, h4, h5, h6, h7⟩ := h.is
  exact ⟨j, S, h1, h2, h3, h4, h5, h6, fun _ h => h.elim⟩
/-- A block that is new is none of the journal's. -/
theorem StandF.spare (h : StandF D J B w p ba bb v hv m F) (hb : Below w.heap.size w w') : StandF D J B w' p ba bb v hv m fun k => k = w.heap.size := by
  obtain ⟨j, S, h1, h2, h3, h4, h5, h6, h7⟩ := h.is
  exact ⟨j, S, h1.stays hb.size fun k hk => hb.block k (h1.lt k hk), h2, h3.below hb, h4, h5, h6, fun k hk hs => by
    have := h1.lt k hs
    omega⟩
theorem Stand.f (h : Stand D J B w p ba bb v hv m) : StandF D J B w p ba bb v hv m fun _ => False := by
  obtain ⟨j, S, h1, h2, h3, h4, h5, h6, h7, h8⟩ := h.is
  exact ⟨j, S, h1, h2, h3, h4, h5, h8, fun _ h => h.elim⟩
theorem Over.spare {un : List ByteArray} {an : Bool} (h : Over D B w ba bb v hv un an m F) (hb : Below w.heap.size w w') : Over D B w' ba bb v hv un an m fun k => k = w.heap.size := by
  obtain ⟨a, b, S, h1, h2, h3, h4, h5, h6, h7⟩ := h.is
  exact ⟨a, b, S, h1.stays hb.size fun k hk => hb.block k (h1.lt k hk), h2, h3.below hb, h4, h5, (fun k hk hs => by
    have := h1.lt k hs
    omega), h7⟩
theorem Over.free {un : List ByteArray} {an : Bool} {m2 : Nat} (h : Over D B w ba bb v hv un an m F) (hb : Below w.heap.size w w') (hm : m ≤ m2) : Over D B w' ba bb v hv un an m2 fun _ => False := by
  obtain ⟨a, b, S, h1, h2, h3, h4, h5, h6, h7⟩ := h.is
  exact ⟨a, b, S, h1.stays hb.size fun k hk => hb.block k (h1.lt k hk), h2, h3.below hb, h4, Nat.le_trans h5 hm, (fun _ h => h.elim), h7⟩
theorem drewN_below (w : World) (n : Nat) : Below w.heap.size w (w.drewN n) := ⟨rfl, rfl, rfl, Nat.le_refl _, fun _ _ => rfl⟩
theorem Over.set {un : List ByteArray} {an : Bool} (h : Over D B w ba bb v hv un an m F) {c i : Nat} {u : Value} (hc : F c) (hv' : ∀ k, v.ownBlock = some k → k ≠ c) : Over D B (w.setCell ⟨c, i, none⟩ u) ba bb v hv un an m F := by
  obtain ⟨a, b, S, h1, h2, h3, h4, h5, h6, h7⟩ := h.is
  have hk : ∀ k, S k → (w.setCell ⟨c, i, none⟩ u).heap[k]? = w.heap[k]? := fun k hk => Below.heap_setCell _ _ _ _ fun e => h6 c hc (by have e2 : k = c := e; rw [← e2]; exact hk)
  exact ⟨a, b, S, h1.stays (by simp [World.setCell]) hk, h2, h3.apart (S := fun k => k = c) ⟨rfl, rfl, rfl, by simp [World.setCell], fun k _ hn => Below.heap_setCell _ _ _ _ hn⟩ (fun k hk => hv' k hk), h4, h5, h6, h7⟩
/-- No crash so far. -/
theorem StandF.over (h : StandF D J B w p ba bb v hv m F) : Over D B w ba bb v hv [] false m F := by
  obtain ⟨j, S, h1, h2, h3, h4, h5, h6, h7⟩ := h.is
  obtain ⟨Sd, hd1, hd2⟩ := h1.duo
  refine ⟨j.a, j.b, Sd, hd1, fun k hk => h2 k (hd2 k hk), h3, fun k hk hs => h4 k hk (hd2 k hs), by simpa using h6, fun k hk hs => h7 k hk (hd2 k hs), fun k1 k2 m1 m2 => ?_⟩
  obtain ⟨j', l, q1, q2, q3, q4, q5, _⟩ := h5.after k1 k2 m1 m2
  exact ⟨j', l, q1, q2, q4, q5, 0, by rw [q3, List.take_zero, List.append_nil]⟩
/-- What a Put or a Start comes to. -/
def KStep (D : Dev) (J : Jrn) (B : Nat) (w' : World) (p ba bb : Nat) (v : Value) (hv un nx : List ByteArray) (an : Bool) (m : Nat) (F : Nat → Prop) (x : Value) : Prop :=
  (x = .nilIface ∧ ∃ j S, Trio D J w' p ba bb S j ∧ (∀ k, S k → B ≤ k) ∧ RowT w' B v hv ∧ (∀ k, v.ownBlock = some k → ¬ S k) ∧ Live j (nx.map nats) ∧ (∀ k, F k → ¬ S k)) ∨
  (ErrIs w' 3 x ∧ StandF D J B w' p ba bb v hv m F) ∨ ErrIs w' 4 x ∨ (ErrIs w' 5 x ∧ Over D B w' ba bb v hv un an (m + un.length) F)
theorem put_keep (hP : PutOk D J) (hT : Tables w) (hlt : 1 < B ∧ 2 < B) (h : StandF D J B w p ba bb v hv m F) (hF : ∀ k, F k → k < w.heap.size) (hB : B ≤ w.heap.size) (ht : TextsIn w pp xs) (hs : Small xs) (hc : xs.length ≤ cap) (hn : ∀ a, pp = some a → 0 < xs.length → a.block < B) :
    Calls Tryz.prog 11 #[ptr p, .slice pp xs.length cap] w fun e w' => (∃ x, e = .returned x ∧ KStep D J B w' p ba bb v hv xs (hv ++ xs) false m F x) ∧ Below B w w' ∧ ∀ k, F k → w'.heap[k]? = w.heap[k]? := by
  obtain ⟨j, S, h1, h2, h3, h4, h5, h6, h7⟩ := h.is
  refine (hP p ba bb S j pp cap xs w h1 hT (far_of hlt h2) ht hs hc fun a ha h0 hS => by have := hn a ha h0; have := h2 _ hS; omega).mono ?_
  rintro e w' ⟨⟨x, rfl, hx⟩, ⟨S', g1, g2⟩, g3⟩
  have hr := h3.apart g3 h4
  have hSB : ∀ k, S' k → B ≤ k := fun k hk => (g2 k hk).elim (h2 k) fun h => Nat.le_trans hB h
  have hvS : ∀ k, v.ownBlock = some k → ¬ S' k := fun k hk => not_in g2 (OwnsM.lt h3 k hk).2 (h4 k hk)
  have hFS : ∀ k, F k → ¬ S' k := fun k hk => not_in g2 (hF k hk) (h7 k hk)
  refine ⟨⟨x, rfl, ?_⟩, apart_below h2 hB g3, fun k hk => g3.block k (hF k hk) (h7 k hk)⟩
  rcases put_step h5 (nats_oct xs) with ⟨e0, q1, _⟩ | ⟨e0, q1, _⟩ | ⟨e0, _⟩ | ⟨e0, q1, _⟩
  · exact .inl ⟨hx.zero e0, _, S', g1, hSB, hr, hvS, by rw [List.map_append]; exact q1, hFS⟩
  · rw [q1] at g1
    exact .inr (.inl ⟨by have := hx.not (by rw [e0]; decide); rwa [e0] at this, ⟨j, S', g1, hSB, hr, hvS, h5, h6, hFS⟩⟩)
  · exact .inr (.inr (.inl (by have := hx.not (by rw [e0]; decide); rwa [e0] at this)))
  · refine .inr (.inr (.inr ⟨by have := hx.not (by rw [e0]; decide); rwa [e0] at this, ?_⟩))
    obtain ⟨Sd, hd1, hd2⟩ := g1.duo
    refine ⟨_, _, Sd, hd1, fun k hk => hSB k (hd2 k hk), hr, fun k hk hs => hvS k hk (hd2 k hs), by omega, fun k hk hs => hFS k hk (hd2 k hs), fun k1 k2 m1 m2 => ?_⟩
    obtain ⟨j', l, z1, z2, ⟨k, z3⟩, z4, z5, _⟩ := q1 k1 k2 m1 m2
    exact ⟨j', l, z1, z2, z4, z5, k, by rw [z3, List.map_append, List.map_take]⟩
theorem start_keep (hP : StartOk D J) (hT : Tables w) (hlt : 1 < B ∧ 2 < B) (h : StandF D J B w p ba bb v hv m F) (hF : ∀ k, F k → k < w.heap.size) (hB : B ≤ w.heap.size) (ht : TextsIn w pp xs) (hs : Small xs) (hc : xs.length ≤ cap) (hn : ∀ a, pp = some a → 0 < xs.length → a.block < B) :
    Calls Tryz.prog 12 #[ptr p, .slice pp xs.length cap] w fun e w' => (∃ x, e = .returned x ∧ KStep D J B w' p ba bb v hv xs xs true m F x) ∧ Below B w w' ∧ ∀ k, F k → w'.heap[k]? = w.heap[k]? := by
  obtain ⟨j, S, h1, h2, h3, h4, h5, h6, h7⟩ := h.is
  refine (hP p ba bb S j pp cap xs w h1 hT (far_of hlt h2) ht hs hc fun a ha h0 hS => by have := hn a ha h0; have := h2 _ hS; omega).mono ?_
  rintro e w' ⟨⟨x, rfl, hx⟩, ⟨S', g1, g2⟩, g3⟩
  have hr := h3.apart g3 h4
  have hSB : ∀ k, S' k → B ≤ k := fun k hk => (g2 k hk).elim (h2 k) fun h => Nat.le_trans hB h
  have hvS : ∀ k, v.ownBlock = some k → ¬ S' k := fun k hk => not_in g2 (OwnsM.lt h3 k hk).2 (h4 k hk)
  have hFS : ∀ k, F k → ¬ S' k := fun k hk => not_in g2 (hF k hk) (h7 k hk)
  refine ⟨⟨x, rfl, ?_⟩, apart_below h2 hB g3, fun k hk => g3.block k (hF k hk) (h7 k hk)⟩
  rcases start_step h5 (nats_oct xs) (by rw [List.length_map]; have := hs.few; omega) with ⟨e0, q1, _⟩ | ⟨e0, q1, _⟩ | ⟨e0, _⟩ | ⟨e0, q1, _⟩
  · exact .inl ⟨hx.zero e0, _, S', g1, hSB, hr, hvS, q1, hFS⟩
  · rw [q1] at g1
    exact .inr (.inl ⟨by have := hx.not (by rw [e0]; decide); rwa [e0] at this, ⟨j, S', g1, hSB, hr, hvS, h5, h6, hFS⟩⟩)
  · exact .inr (.inr (.inl (by have := hx.not (by rw [e0]; decide); rwa [e0] at this)))
  · refine .inr (.inr (.inr ⟨by have := hx.not (by rw [e0]; decide); rwa [e0] at this, ?_⟩))
    obtain ⟨Sd, hd1, hd2⟩ := g1.duo
    refine ⟨_, _, Sd, hd1, fun k hk => hSB k (hd2 k hk), hr, fun k hk hs => hvS k hk (hd2 k hs), by omega, fun k hk hs => hFS k hk (hd2 k hs), fun k1 k2 m1 m2 => ?_⟩
    obtain ⟨j', l, z1, z2, z3, z4, z5, _⟩ := q1 k1 k2 m1 m2
    exact ⟨j', l, z1, z2, z4, z5, z3⟩
/-- A fuse changes nothing that lasts. -/
theorem live_a {j : Jn} {l : List (List Nat)} (h : Live j l) (n : Int) (hn : n ≤ 9223372036854775807) : Live { j with a := fuse n j.a } l := by
  obtain ⟨ps, h1, h2, h3, h4⟩ := h.cur
  obtain ⟨y, h5, h6, h7⟩ := h.spare
  refine ⟨⟨ps, ?_, h2, h3, h4⟩, ⟨y, ?_, h6, h7⟩, h.over, h.oka.fuse hn, h.okb⟩
  · unfold Jn.cur at h1 ⊢
    cases hnow : j.now with
    | false => rw [hnow] at h1; exact ⟨h1.off, h1.late, h1.done⟩
    | true => rw [hnow] at h1; exact h1
  · unfold Jn.spare at h5 ⊢
    cases hnow : j.now with
    | false => rw [hnow] at h5; exact h5
    | true => rw [hnow] at h5; exact ⟨h5.off, h5.late, h5.done⟩
theorem live_b {j : Jn} {l : List (List Nat)} (h : Live j l) (n : Int) (hn : n ≤ 9223372036854775807) : Live { j with b := fuse n j.b } l := by
  obtain ⟨ps, h1, h2, h3, h4⟩ := h.cur
  obtain ⟨y, h5, h6, h7⟩ := h.spare
  refine ⟨⟨ps, ?_, h2, h3, h4⟩, ⟨y, ?_, h6, h7⟩, h.over, h.oka, h.okb.fuse hn⟩
  · unfold Jn.cur at h1 ⊢
    cases hnow : j.now with
    | false => rw [hnow] at h1; exact h1
    | true => rw [hnow] at h1; exact ⟨h1.off, h1.late, h1.done⟩
  · unfold Jn.spare at h5 ⊢
    cases hnow : j.now with
    | false => rw [hnow] at h5; exact ⟨h5.off, h5.late, h5.done⟩
    | true => rw [hnow] at h5; exact h5
theorem StandF.does {j : Jn} {S : Nat → Prop} (h3 : RowT w B v hv) (h2 : ∀ k, S k → B ≤ k) (h4 : ∀ k, v.ownBlock = some k → ¬ S k) (hB : B ≤ w.heap.size) (hm : hv.length ≤ m) (hl : Live j (hv.map nats)) (hd : DoesJ D J w p ba bb S j w') :
    StandF D J B w' p ba bb v hv m (fun _ => False) ∧ Below B w w' := by
  obtain ⟨⟨S', g1, g2⟩, g3⟩ := hd
  exact ⟨⟨j, S', g1, fun k hk => (g2 k hk).elim (h2 k) fun h => Nat.le_trans hB h, h3.apart g3 h4, fun k hk => not_in g2 (OwnsM.lt h3 k hk).2 (h4 k hk), hl, hm, fun _ h => h.elim⟩, apart_below h2 hB g3⟩
/-- The fuse of a device is set. -/
theorem fuse_keep (hU : FuseOk D) (h : StandF D J B w p ba bb v hv m F) (hB : B ≤ w.heap.size) (d : Bool) (n : Int) (hn : I64 n) :
    Calls Tryz.prog 10 #[ptr (if d then bb else ba), .int .i64 n] w fun e w' => e = .returned (.tuple #[]) ∧ StandF D J B w' p ba bb v hv m (fun _ => False) ∧ Below B w w' := by
  obtain ⟨j, S, h1, h2, h3, h4, h5, h6, h7⟩ := h.is
  cases d with
  | false =>
    obtain ⟨Sa, a1, a2⟩ := h1.first
    refine (hU ba Sa _ n w a1 h1.oka hn).mono ?_
    rintro e w' ⟨rfl, hd⟩
    exact ⟨rfl, StandF.does h3 h2 h4 hB h6 (live_a h5 n hn.2) (a2 w' _ (h1.oka.fuse hn.2) hd)⟩
  | true =>
    obtain ⟨Sb, b1, b2⟩ := h1.second
    refine (hU bb Sb _ n w b1 h1.okb hn).mono ?_
    rintro e w' ⟨rfl, hd⟩
    exact ⟨rfl, StandF.does h3 h2 h4 hB h6 (live_b h5 n hn.2) (b2 w' _ (h1.okb.fuse hn.2) hd)⟩
theorem standf_more {w w' : World} {S : Nat → Prop} {j : Jn} {v' : Value} (hT : Trio D J w p ba bb S j) (hB : ∀ k, S k → B ≤ k) (hn : ∀ k, v.ownBlock = some k → ¬ S k) (hl : Live j (hv.map nats)) (hm : hv.length ≤ m)
    (hr : RowT w' B v' hv) (hg : w.grownBy w' v.ownBlock) (hv' : ∀ k, v'.ownBlock = some k → v.ownBlock = some k ∨ w.heap.size ≤ k) : StandF D J B w' p ba bb v' hv m fun _ => False := by
  refine ⟨j, S, hT.stays hg.size fun k hk => hg.block k (hT.lt k hk) fun e => hn k e.symm hk, hB, hr, fun k hk hs => ?_, hl, hm, fun _ h => h.elim⟩
  rcases hv' k hk with h | h
  · exact hn k h hs
  · have := hT.lt k hs
    omega
theorem fuse_a (hU : FuseOk D) (h : StandF D J B w p ba bb v hv m F) (hB : B ≤ w.heap.size) (n : Int) (hn : I64 n) :
    Calls Tryz.prog 10 #[ptr ba, .int .i64 n] w fun e w' => e = .returned (.tuple #[]) ∧ StandF D J B w' p ba bb v hv m (fun _ => False) ∧ Below B w w' := by
  have := fuse_keep hU h hB false n hn
  rw [if_neg (by simp)] at this
  exact this
theorem fuse_b (hU : FuseOk D) (h : StandF D J B w p ba bb v hv m F) (hB : B ≤ w.heap.size) (n : Int) (hn : I64 n) :
    Calls Tryz.prog 10 #[ptr bb, .int .i64 n] w fun e w' => e = .returned (.tuple #[]) ∧ StandF D J B w' p ba bb v hv m (fun _ => False) ∧ Below B w w' := by
  have := fuse_keep hU h hB true n hn
  rw [if_pos rfl] at this
  exact this
end
end Go.Proofs.YtajkldmpllphjaaGreatDoor
