/-
  The rows of a session, all rows and those that show, of a store whose cells stand in a map of maps. The conditions: texts of at most 1000 bytes, rows that rise.
-/
import Derived.Test.YtgbhfhnbmgkaoaaGreatDoorNest9
import Derived.Test.YtgbhfhnbmgkaoaaGreatDoorPart09
namespace Go.Proofs.YtgbhfhnbmgkaoaaGreatDoor
open Go.RowKit Go.Maps TextNat RegMath

theorem TextsAt.far {w w' : World} {p : Option Addr} {ts : List ByteArray} (h : TextsAt w p ts) (hb : Below w.heap.size w w') : TextsAt w' p ts := fun i x hx => by
  obtain ⟨b, off, hp, hc⟩ := h i x hx
  exact ⟨b, off, hp, (hb.cell (p := ⟨b, off + i, none⟩) (World.block_lt_of_cell? w _ hc)).trans hc⟩
theorem flat_take {α β : Type} (C : List α) (f : α → List β) (i : Nat) : ((C.take i).flatMap f).length ≤ (C.flatMap f).length := by
  conv => rhs; rw [← List.take_append_drop i C]
  rw [List.flatMap_append, List.length_append]
  exact Nat.le_add_right _ _
theorem flat_congr {α β : Type} : ∀ {C : List α} {f g : α → List β}, (∀ x ∈ C, f x = g x) → C.flatMap f = C.flatMap g
  | [], _, _, _ => rfl
  | x :: C, f, g, h => by
    rw [List.flatMap_cons, List.flatMap_cons, h x (by simp), flat_congr fun y hy => h y (List.mem_cons_of_mem _ hy)]
def mkR (xs : List RowV) (s k : ByteArray) : RowV := ⟨s, k, (lookV xs s k).getD zeroR⟩
set_option maxRecDepth 100000 in
set_option maxHeartbeats 8000000 in
theorem rowsOf16 (q : RegV → Bool) (g : Nat) (cb : Array Value) (s : ByteArray) (m' : Option Nat) (xs : List RowV) (w : World) (h : MapAt cellE w m' (entS xs s)) (hx : Short xs) (eg : ∀ args w, (callFunc g args).run Tryz.prog w = .ok (.enter g args) w)
    (hq : ∀ (c : RegV) W, Calls Tryz.prog g (#[c.val] ++ cb) W fun e w' => e = .returned (.bool (q c)) ∧ Below W.heap.size W w') :
    Calls Tryz.prog 58 #[.string s, .map m', .func (.func g) #[] cb] w fun e w' => (∃ p c, e = .returned (.slice p (xs.filter fun x => inS s x && q x.cell).length c) ∧ (xs.filter fun x => inS s x && q x.cell).length ≤ c ∧ c ≤ 9223372036854775807 ∧ RowsIn w' p (xs.filter fun x => inS s x && q x.cell)) ∧ Below w.heap.size w w' := by
  obtain ⟨C, hC⟩ : ∃ C, C = (xs.filter fun x => inS s x && q x.cell).map RowV.key := ⟨_, rfl⟩
  obtain ⟨N, hN⟩ : ∃ N, N = C.length := ⟨_, rfl⟩
  have hmk : C.map (mkR xs s) = xs.filter fun x => inS s x && q x.cell := by rw [hC]; exact rows_made hx.rises s q
  have hln : (xs.filter fun x => inS s x && q x.cell).length = N := by rw [hN, hC, List.length_map]
  have hN1 : N ≤ 1000 := by rw [← hln]; exact Nat.le_trans (List.length_filter_le _ _) hx.few
  obtain ⟨W, hW⟩ : ∃ W, W = w.alloc (.cells #[.func (.func g) #[] cb] 98) := ⟨_, rfl⟩
  obtain ⟨P, hP⟩ : ∃ P, P = w.heap.size := ⟨_, rfl⟩
  have b1 : Below w.heap.size w W := by rw [hW]; exact (Below.refl _ _).alloc (Nat.le_refl _) _
  have LP := Lib.hid (show Lies W P [.func (.func g) #[] cb] 98 by rw [hW, hP]; exact Lies.new w _ _)
  have eg2 : ∀ args w, (callFunc 67 args).run Tryz.prog w = .ok (.enter 67 args) w := enters_of Tryz.func67 (by kernel_rfl) rfl
  have HR := Lib.hid (risingCell16 m' (entS xs s) (fun p => q p.2) C 67 #[.pointer (some ⟨P, 0, none⟩)] W (h.below b1) (entS_few hx s) (fun p hp => (entS_short hx hp).1) (by rw [hC]; exact keys_made hx.rises s q) (by rw [hC]; exact fun x => keys_made_mem) eg2
    (fun p hp W1 hb => pickLit16 q g P cb p.1 p.2 W1 ((LP.out.below hb).cell (i := 0) rfl) eg fun W2 _ => hq p.2 W2))
  have HMk := Lib.hid hmk
  have HN := Lib.hid hN
  have HLn := Lib.hid hln
  have HN1 := Lib.hid hN1
  have HB := Lib.hid b1
  have HM := Lib.hid (h.below b1)
  have HW := Lib.hid hW; have HPe := Lib.hid hP
  have HX := Lib.hid hx
  have HKs := Lib.hid (show ∀ k ∈ C, k.size ≤ 1000 from fun k hk => by
    rw [hC] at hk
    obtain ⟨x, hx1, rfl⟩ := List.mem_map.1 hk
    exact (hx.texts x (List.mem_filter.1 hx1).1).2.1)
  rw [← hN] at HR
  rw [hln]
  clear hC hN hmk hln b1 hW hP h hx eg eg2 hq hN1
  go_enter Tryz.func58, Tryz.ntmps58
  go_upto_region 2 with fail
  rw [← HW.out, ← HPe.out]
  go_wp2_with fail
  refine HR.out.mono ?_
  rintro e W1 ⟨⟨p, c, rfl, hc1, hc2, hc3⟩, hb⟩
  have HT := Lib.hid hc3
  have HB1 := Lib.hid (HB.out.trans (hb.mono HB.out.size))
  have HM1 := Lib.hid (HM.out.below hb)
  have HCc := Lib.hid (And.intro hc1 hc2)
  clear hc1 hc2 hc3 hb
  have hNm : N ≤ 1000 := HN1.out
  go_wp2_with fail
  go_loopg [7, 14] N (fun gh s7 s14 wx => ∃ i : Nat, i + gh = N ∧ s14 = .int .i64 (i : Int) ∧ Hid (OwnS 60 wx W1.heap.size s7 ((C.take i).map (mkR xs s))) ∧ Hid (Below W1.heap.size W1 wx))
  case atStart => exact ⟨0, by omega, by go_num, Lib.hid (OwnS.nil _ _ _), Lib.hid (Below.refl _ _)⟩
  case round =>
    obtain ⟨i, hi, rfl, HO, HBx⟩ := hrel
    rename World => W2
    by_cases hlt : i < N
    · have t1 : decide ((i : Int) < (N : Int)) = true := decide_eq_true (by omega)
      have t1' : decide (i < N) = true := decide_eq_true hlt
      have q0 : (i : Int) < (N : Int) := by omega
      have q1 : (0 : Int) ≤ (i : Int) := by omega
      obtain ⟨k, hk⟩ : ∃ k, C[i]? = some k := ⟨_, List.getElem?_eq_getElem (by rw [← HN.out]; exact hlt)⟩
      obtain ⟨b1, o1, rfl, d0⟩ := (HT.out.far HBx.out) i k hk
      have HIn := Lib.hid (And.intro hi hlt)
      obtain ⟨d, hd⟩ : ∃ d, d = (lookV xs s k).getD zeroR := ⟨_, rfl⟩
      have HTk := Lib.hid (show (C.take (i + 1)).map (mkR xs s) = (C.take i).map (mkR xs s) ++ [(⟨s, k, d⟩ : RowV)] by rw [List.take_add_one, hk, List.map_append, hd]; rfl)
      have hlk := (key_look (HM1.out.below HBx.out) (HKs.out k (List.mem_of_getElem? hk))).1
      rw [← hd] at hlk
      have HCo := Lib.hid (fun w => copied16 d (by rw [hd]; have := lookV_short HX.out s k; omega) w)
      have HAl := Lib.hid (show ((C.take i).map (mkR xs s)).length ≤ 1000 by rw [List.length_map, List.length_take]; have := HN1.out; omega)
      obtain ⟨A, hA⟩ : ∃ A, A = (C.take i).map (mkR xs s) := ⟨_, rfl⟩
      rw [← hA] at HO HTk HAl
      obtain ⟨p5, c5, hs5, _, _⟩ := HO.out.shape
      subst hs5
      obtain ⟨dt, dr, dv, dg, dl⟩ := d
      simp only [RegV.val] at hlk HCo
      clear hk hd hi hlt hA
      go_wp2_with fail
      refine (HCo.out _).mono ?_
      rintro e W3 ⟨rfl, hb⟩
      have HB3 := Lib.hid (HBx.out.trans (hb.mono HBx.out.size))
      have al5 : Below W3.heap.size W3 (W3.alloc (.cells #[.string s, .string k, .int .i64 dt, .int .i64 dr, .string dv, .bool dg, .int .i64 dl] 60)) := (Below.refl _ _).alloc (Nat.le_refl _) _
      have HON := Lib.hid (one_rows (a := ⟨s, k, ⟨dt, dr, dv, dg, dl⟩⟩) (Lies.new W3 [.string s, .string k, .int .i64 dt, .int .i64 dr, .string dv, .bool dg, .int .i64 dl] 60))
      have HOa := Lib.hid ((HO.out.below hb).below al5)
      have HBa := Lib.hid (HB3.out.trans (al5.mono HB3.out.size))
      clear al5 hb hlk
      have hz : A.length + [(⟨s, k, ⟨dt, dr, dv, dg, dl⟩⟩ : RowV)].length ≤ 100000 := by have := HAl.out; show A.length + 1 ≤ 100000; omega
      go_wp2_with (at_builtin; refine app_rows rfl _ _ 41 60 info_storerow Tryz.underlying41 rfl W1.heap.size _ A [⟨s, k, ⟨dt, dr, dv, dg, dl⟩⟩] rfl HOa.out (some ⟨W3.heap.size, 0, none⟩) 1 1 rfl rfl HON.out hz HBa.out.size ?_; intro v5 w5 h1 h2 _ _; have HO5 := Lib.hid h1; have HB5 := Lib.hid (HBa.out.trans h2); clear h1 h2)
      go_roundg (N - (i + 1))
      case measure => have := HIn.out; omega
      case rel => exact ⟨i + 1, by have := HIn.out; omega, by go_num, by rw [HTk.out]; exact HO5, HB5⟩
    · have t1 : decide ((i : Int) < (N : Int)) = false := decide_eq_false (by omega)
      have t1' : decide (i < N) = false := decide_eq_false hlt
      have hT : C.take i = C := List.take_of_length_le (by rw [← HN.out]; omega)
      rw [hT, HMk.out] at HO
      obtain ⟨p5, c5, hs5, hc5, hm5⟩ := HO.out.shape
      have HSh := Lib.hid (And.intro hc5 hm5)
      rw [HLn.out] at hs5 HSh
      subst hs5
      clear hlt hi hT hc5 hm5
      go_wp2
      go_ret
      exact ⟨⟨p5, c5, rfl, HSh.out.1, HSh.out.2, HO.out.rows⟩, HB1.out.trans (HBx.out.mono HB1.out.size)⟩
set_option maxRecDepth 100000 in
set_option maxHeartbeats 8000000 in
theorem rows16s : Rows16 sto16 := by
  rintro b S xs w ⟨m, os, h, hf, rfl⟩ hx
  obtain ⟨C, hC⟩ : ∃ C, C = sortT (os.map Prod.fst) := ⟨_, rfl⟩
  obtain ⟨F, hF⟩ : ∃ F : ByteArray → List RowV, F = fun s => xs.filter fun x => inS s x && (fun _ : RegV => true) x.cell := ⟨_, rfl⟩
  have hnd : (os.map Prod.fst).Nodup := List.pairwise_map.2 h.keys
  have hri : (C.map nats).Pairwise fun x y => lex x y = true := by rw [hC]; exact sortT_rises hnd
  have hfl : C.flatMap F = xs := by
    rw [hF]
    have := by_sessions hx.rises (fun _ => true) hri (fun x hxm _ => by
      rw [hC]
      obtain ⟨p, hp, e⟩ := h.all x hxm
      exact sortT_mem.2 (List.mem_map.2 ⟨p, hp, e⟩))
    rw [List.filter_eq_self.2 (fun _ _ => rfl : ∀ a ∈ xs, (fun _ => true) a = true)] at this
    exact this
  have hks : ∀ s ∈ C, s.size ≤ 1000 := fun s hs => by
    rw [hC] at hs
    obtain ⟨p, hp, rfl⟩ := List.mem_map.1 (sortT_mem.1 hs)
    exact ent_short hx (hf p hp)
  have hcl : C.length ≤ 1000 := by
    rw [hC, sortT_len, List.length_map]
    exact Nat.le_trans (few_sessions h.keys hf) hx.few
  have eg : ∀ args w, (callFunc 59 args).run Tryz.prog w = .ok (.enter 59 args) w := enters_of Tryz.func59 (by kernel_rfl) rfl
  obtain ⟨N, hN⟩ : ∃ N, N = C.length := ⟨_, rfl⟩
  have HFl := Lib.hid hfl
  have HFd := Lib.hid (show ∀ s, F s = xs.filter fun x => inS s x && (fun _ => true) x.cell from fun s => by rw [hF])
  have HN := Lib.hid hN
  have HE := Lib.hid (fun s m' w (h : MapAt cellE w m' (entS xs s)) => rowsOf16 (fun _ => true) 59 #[] s m' xs w h hx eg (fun c W => rowsLit2 c W))
  have HNe := Lib.hid h
  have HKs := Lib.hid hks
  have HX := Lib.hid hx
  have HN1 := Lib.hid (show N ≤ 1000 by rw [hN]; exact hcl)
  have eg2 : ∀ args w, (callFunc 57 args).run Tryz.prog w = .ok (.enter 57 args) w := enters_of Tryz.func57 (by kernel_rfl) rfl
  have HR := Lib.hid (risingMap16 m (os.map sesE) (fun _ => true) C 57 #[] w h.map (ses_few h hf hx) (ses_short hf hx) hri (fun x => by
    rw [hC]
    constructor
    · intro hs
      obtain ⟨p, hp, rfl⟩ := List.mem_map.1 (sortT_mem.1 hs)
      exact ⟨some p.2, List.mem_map_of_mem (f := sesE) hp, rfl⟩
    · rintro ⟨c, hc, _⟩
      obtain ⟨p, hp, e⟩ := List.mem_map.1 hc
      exact sortT_mem.2 (List.mem_map.2 ⟨p, hp, (Prod.mk.inj e).1⟩)) eg2 (fun p _ W _ => rowsLit1 (.string p.1) (mapE.val p.2) W))
  have HA := Lib.hid (all16 b m w h.top)
  rw [← hN] at HR
  clear hF hC hN hnd hri hfl hks hcl h hx eg eg2 hf
  go_enter Tryz.func37, Tryz.ntmps37
  go_wp2_with fail
  refine HA.out.mono ?_
  rintro e w0 ⟨rfl, hw0⟩
  rw [hw0]
  clear hw0
  go_wp2_with fail
  refine HR.out.mono ?_
  rintro e W1 ⟨⟨p, c, rfl, hc1, hc2, hc3⟩, hb⟩
  have HT := Lib.hid hc3
  have HB1 := Lib.hid hb
  clear hc1 hc2 hc3 hb
  have hNm : N ≤ 1000 := HN1.out
  go_wp2_with fail
  go_loopg [3, 10] N (fun gh s3 s9 wx => ∃ i : Nat, i + gh = N ∧ s9 = .int .i64 (i : Int) ∧ Hid (OwnS 60 wx W1.heap.size s3 ((C.take i).flatMap F)) ∧ Hid (Below W1.heap.size W1 wx))
  case atStart => exact ⟨0, by omega, by go_num, Lib.hid (OwnS.nil _ _ _), Lib.hid (Below.refl _ _)⟩
  case round =>
    obtain ⟨i, hi, rfl, HO, HBx⟩ := hrel
    rename World => W2
    by_cases hlt : i < N
    · have t1 : decide ((i : Int) < (N : Int)) = true := decide_eq_true (by omega)
      have t1' : decide (i < N) = true := decide_eq_true hlt
      have q0 : (i : Int) < (N : Int) := by omega
      have q1 : (0 : Int) ≤ (i : Int) := by omega
      obtain ⟨s, hs⟩ : ∃ s, C[i]? = some s := ⟨_, List.getElem?_eq_getElem (by rw [← HN.out]; exact hlt)⟩
      obtain ⟨b1, o1, rfl, d0⟩ := (HT.out.far HBx.out) i s hs
      have HIn := Lib.hid (And.intro hi hlt)
      have HTk := Lib.hid (show (C.take (i + 1)).flatMap F = (C.take i).flatMap F ++ F s by rw [List.take_add_one, hs, List.flatMap_append]; simp)
      have HN2 := Lib.hid (HNe.out.below (HB1.out.trans (HBx.out.mono HB1.out.size)))
      obtain ⟨m', hl1, hl2, _, _⟩ := HN2.out.sess (HKs.out s (List.mem_of_getElem? hs))
      have x0 := HN2.out.top.cell (i := 0) rfl
      have HAl := Lib.hid (show ((C.take i).flatMap F).length ≤ 1000 by
        refine Nat.le_trans (flat_take C F i) ?_
        rw [HFl.out]
        exact HX.out.few)
      have HFs := Lib.hid (show (F s).length ≤ 1000 by rw [HFd.out s]; exact Nat.le_trans (List.length_filter_le _ _) HX.out.few)
      have HEs := Lib.hid (HE.out s m' W2 hl2)
      obtain ⟨A, hA⟩ : ∃ A, A = (C.take i).flatMap F := ⟨_, rfl⟩
      rw [← hA] at HO HTk HAl
      obtain ⟨p5, c5, hs5, _, _⟩ := HO.out.shape
      subst hs5
      obtain ⟨R, hR⟩ : ∃ R, R = F s := ⟨_, rfl⟩
      rw [show (xs.filter fun x => inS s x && (fun _ => true) x.cell) = R from (HFd.out s).symm.trans hR.symm] at HEs
      rw [← hR] at HTk HFs
      clear hs hi hlt hA hR hl2
      go_wp2_with fail
      refine HEs.out.mono ?_
      rintro e W3 ⟨⟨p6, c6, rfl, _, _, hrows⟩, hb⟩
      have HOa := Lib.hid (HO.out.below hb)
      have HBa := Lib.hid (HBx.out.trans (hb.mono HBx.out.size))
      have HRo := Lib.hid hrows
      clear hb hrows hl1 x0
      have hz : A.length + R.length ≤ 100000 := by have := HAl.out; have := HFs.out; omega
      go_wp2_with (at_builtin; refine app_rows rfl _ _ 41 60 info_storerow Tryz.underlying41 rfl W1.heap.size _ A R rfl HOa.out p6 _ c6 rfl rfl HRo.out hz HBa.out.size ?_; intro v5 w5 h1 h2 _ _; have HO5 := Lib.hid h1; have HB5 := Lib.hid (HBa.out.trans h2); clear h1 h2)
      go_roundg (N - (i + 1))
      case measure => have := HIn.out; omega
      case rel => exact ⟨i + 1, by have := HIn.out; omega, by go_num, by rw [HTk.out]; exact HO5, HB5⟩
    · have t1 : decide ((i : Int) < (N : Int)) = false := decide_eq_false (by omega)
      have t1' : decide (i < N) = false := decide_eq_false hlt
      have hT : C.take i = C := List.take_of_length_le (by rw [← HN.out]; omega)
      rw [hT, HFl.out] at HO
      obtain ⟨p5, c5, hs5, hc5, hm5⟩ := HO.out.shape
      have HSh := Lib.hid (And.intro hc5 hm5)
      subst hs5
      clear hlt hi hT hc5 hm5
      go_wp2
      go_ret
      exact ⟨⟨p5, c5, rfl, HSh.out.1, HSh.out.2, HO.out.rows⟩, HB1.out.trans (HBx.out.mono HB1.out.size)⟩
set_option maxRecDepth 100000 in
set_option maxHeartbeats 8000000 in
theorem shows16s : Shows16 sto16 := by
  rintro b S xs w ⟨m, os, h, hf, rfl⟩ hx
  obtain ⟨C, hC⟩ : ∃ C, C = livesV xs := ⟨_, rfl⟩
  obtain ⟨F, hF⟩ : ∃ F : ByteArray → List RowV, F = fun s => xs.filter fun x => inS s x && visV x.cell := ⟨_, rfl⟩
  have hri : (C.map nats).Pairwise fun x y => lex x y = true := by rw [hC]; have := StoreMath.lives_rise hx.rises; rw [lives_r] at this; exact this
  have hfl : C.flatMap F = showsV xs := by
    rw [hF]
    have := by_sessions hx.rises (showV xs) hri (fun x hxm hsh => by
      rw [hC]
      unfold showV at hsh
      rw [Bool.and_eq_true] at hsh
      exact (lives_iff hx.rises _).2 hsh.2)
    show _ = xs.filter (showV xs)
    rw [← this]
    refine flat_congr fun s hs => ?_
    refine List.filter_congr fun x _ => ?_
    by_cases e : x.session = s
    · have hv : visV (headV xs x.session) = true := by rw [e]; exact (lives_iff hx.rises _).1 (by rw [← hC]; exact hs)
      unfold showV
      rw [hv, Bool.and_true]
    · unfold inS
      rw [decide_eq_false e]
      rfl
  have hks : ∀ s ∈ C, s.size ≤ 1000 := fun s hs => by
    rw [hC] at hs
    exact ent_short hx (lives_in s hs)
  have hcl : C.length ≤ 1000 := by
    rw [hC]
    unfold livesV
    rw [List.length_map]
    exact Nat.le_trans (List.length_filter_le _ _) hx.few
  have eg : ∀ args w, (callFunc 45 args).run Tryz.prog w = .ok (.enter 45 args) w := enters_of Tryz.func45 (by kernel_rfl) rfl
  obtain ⟨N, hN⟩ : ∃ N, N = C.length := ⟨_, rfl⟩
  have HFl := Lib.hid hfl
  have HFd := Lib.hid (show ∀ s, F s = xs.filter fun x => inS s x && visV x.cell from fun s => by rw [hF])
  have HN := Lib.hid hN
  have HE := Lib.hid (fun s m' w (h : MapAt cellE w m' (entS xs s)) => rowsOf16 visV 45 #[] s m' xs w h hx eg (fun c W => visibleOk c W))
  have HNe := Lib.hid h
  have HKs := Lib.hid hks
  have HX := Lib.hid hx
  have HN1 := Lib.hid (show N ≤ 1000 by rw [hN]; exact hcl)
  have HR := Lib.hid (livesAll16 b (NestS b m os) xs w ⟨m, os, h, hf, rfl⟩ hx)
  rw [← hC, ← hN] at HR
  clear hF hC hN hri hfl hks hcl h hx eg hf
  go_enter Tryz.func38, Tryz.ntmps38
  go_wp2_with fail
  refine HR.out.mono ?_
  rintro e W1 ⟨⟨p, c, rfl, hc1, hc2, hc3⟩, hb⟩
  have HT := Lib.hid hc3
  have HB1 := Lib.hid hb
  clear hc1 hc2 hc3 hb
  have hNm : N ≤ 1000 := HN1.out
  go_wp2_with fail
  go_loopg [3, 9] N (fun gh s3 s9 wx => ∃ i : Nat, i + gh = N ∧ s9 = .int .i64 (i : Int) ∧ Hid (OwnS 60 wx W1.heap.size s3 ((C.take i).flatMap F)) ∧ Hid (Below W1.heap.size W1 wx))
  case atStart => exact ⟨0, by omega, by go_num, Lib.hid (OwnS.nil _ _ _), Lib.hid (Below.refl _ _)⟩
  case round =>
    obtain ⟨i, hi, rfl, HO, HBx⟩ := hrel
    rename World => W2
    by_cases hlt : i < N
    · have t1 : decide ((i : Int) < (N : Int)) = true := decide_eq_true (by omega)
      have t1' : decide (i < N) = true := decide_eq_true hlt
      have q0 : (i : Int) < (N : Int) := by omega
      have q1 : (0 : Int) ≤ (i : Int) := by omega
      obtain ⟨s, hs⟩ : ∃ s, C[i]? = some s := ⟨_, List.getElem?_eq_getElem (by rw [← HN.out]; exact hlt)⟩
      obtain ⟨b1, o1, rfl, d0⟩ := (HT.out.far HBx.out) i s hs
      have HIn := Lib.hid (And.intro hi hlt)
      have HTk := Lib.hid (show (C.take (i + 1)).flatMap F = (C.take i).flatMap F ++ F s by rw [List.take_add_one, hs, List.flatMap_append]; simp)
      have HN2 := Lib.hid (HNe.out.below (HB1.out.trans (HBx.out.mono HB1.out.size)))
      obtain ⟨m', hl1, hl2, _, _⟩ := HN2.out.sess (HKs.out s (List.mem_of_getElem? hs))
      have x0 := HN2.out.top.cell (i := 0) rfl
      have HAl := Lib.hid (show ((C.take i).flatMap F).length ≤ 1000 by
        refine Nat.le_trans (flat_take C F i) ?_
        rw [HFl.out]
        exact Nat.le_trans (List.length_filter_le _ _) HX.out.few)
      have HFs := Lib.hid (show (F s).length ≤ 1000 by rw [HFd.out s]; exact Nat.le_trans (List.length_filter_le _ _) HX.out.few)
      have HEs := Lib.hid (HE.out s m' W2 hl2)
      obtain ⟨A, hA⟩ : ∃ A, A = (C.take i).flatMap F := ⟨_, rfl⟩
      rw [← hA] at HO HTk HAl
      obtain ⟨p5, c5, hs5, _, _⟩ := HO.out.shape
      subst hs5
      obtain ⟨R, hR⟩ : ∃ R, R = F s := ⟨_, rfl⟩
      rw [show (xs.filter fun x => inS s x && visV x.cell) = R from (HFd.out s).symm.trans hR.symm] at HEs
      rw [← hR] at HTk HFs
      clear hs hi hlt hA hR hl2
      go_wp2_with fail
      refine HEs.out.mono ?_
      rintro e W3 ⟨⟨p6, c6, rfl, _, _, hrows⟩, hb⟩
      have HOa := Lib.hid (HO.out.below hb)
      have HBa := Lib.hid (HBx.out.trans (hb.mono HBx.out.size))
      have HRo := Lib.hid hrows
      clear hb hrows hl1 x0
      have hz : A.length + R.length ≤ 100000 := by have := HAl.out; have := HFs.out; omega
      go_wp2_with (at_builtin; refine app_rows rfl _ _ 41 60 info_storerow Tryz.underlying41 rfl W1.heap.size _ A R rfl HOa.out p6 _ c6 rfl rfl HRo.out hz HBa.out.size ?_; intro v5 w5 h1 h2 _ _; have HO5 := Lib.hid h1; have HB5 := Lib.hid (HBa.out.trans h2); clear h1 h2)
      go_roundg (N - (i + 1))
      case measure => have := HIn.out; omega
      case rel => exact ⟨i + 1, by have := HIn.out; omega, by go_num, by rw [HTk.out]; exact HO5, HB5⟩
    · have t1 : decide ((i : Int) < (N : Int)) = false := decide_eq_false (by omega)
      have t1' : decide (i < N) = false := decide_eq_false hlt
      have hT : C.take i = C := List.take_of_length_le (by rw [← HN.out]; omega)
      rw [hT, HFl.out] at HO
      obtain ⟨p5, c5, hs5, hc5, hm5⟩ := HO.out.shape
      have HSh := Lib.hid (And.intro hc5 hm5)
      subst hs5
      clear hlt hi hT hc5 hm5
      go_wp2
      go_ret
      exact ⟨⟨p5, c5, rfl, HSh.out.1, HSh.out.2, HO.out.rows⟩, HB1.out.trans (HBx.out.mono HB1.out.size)⟩
end Go.Proofs.YtgbhfhnbmgkaoaaGreatDoor
