/-
  Texts of one claim, merged.
  LawSized: For any program and any law: as XLawRow's, with the form's own reach handed to the contract. No conditions but those typed.
  TokenNone: TokenNone's contract. The conditions: the program's contracts; mac's table.
-/
import Derived.Test.YtajhegjemhegiaaDoorPart05
import Derived.SizedLaws
import Derived.Test.YtajhegjemhegiaaDoorPart21
import Derived.Test.YtajhegjemhegiaaDoorPart27
namespace Go.Proofs.YtajhegjemhegiaaDoor
open Go.RowKit Go.ChangeShapes Go.WideShapes

/-- .. where the contract also wants the form's own reach: no string or slice that came in takes 2^47 bytes. -/
theorem law_lifted_sized {C : Checked} {f : FuncId} {fn : Func} {s : ChangeSpec} {L : List (String × DataW Unit)} {tb : TypeId} {os : Os} {H : Type} {enc : TypeId × Value → H}
    (hX : ∀ w w' : World, w.heap = w'.heap → laidMetH C.prog L w → laidMetH C.prog L w')
    (own : ownKnob C.prog.godebug = none) (started : os.Started) (noInit : C.prog.inits.idxOf? f = none) (hfn : C.prog.funcs[f]? = some fn) (hvars : s.vars = []) (hlaid : laidOutB C.prog = true)
    (hread : (fn.params.toList.all fun t => C.prog.readableRec t && decide (t < C.prog.types.size)) = true) (hres : fn.resultTypes = #[tb]) (htb : C.prog.underlying tb = some .bool)
    (witness : ∃ (w : World) (tape : Tape) (i : Input), w.os = os ∧ (w.forCall tape i).Shaped C.prog ∧ i.vars = [] ∧ Input.okWide C.prog (w.forCall tape i) .any w.heap.size f i ∧
      ((s.pre enc C.prog fn [] false (w.forCall tape i).memory i.args ∧ laidMetH C.prog L (w.forCall tape i).memory) ∧ sizedMet enc C.prog fn (OpenSpec.ofChange s) false (w.forCall tape i).memory i.args) ∧ ({} : Assume).holds C.prog (lone (Frame.enter C.prog f i.args .normal) [] (w.forCall tape i)))
    (hspec : ∀ ds : List (DataW H), ds.length = fn.params.size → s.fn H (ds ++ []) = { results := [.lit (.bool true)], args := ds })
    (contract : ∀ (W : World) (base : Nat) (args : Array Value) (ds : List (DataW H)) (p : List MemPlace), (∀ (j : Nat) t v, fn.params[j]? = some t → args[j]? = some v → Value.okWide C.prog W .any base t v) →
      DataW.TrodAll enc C.prog W 0 (fun _ => true) true fn.params.toList args.toList ds p → laidMetH C.prog L W → (DataW.weightsEach C.prog fn.params.toList ds).all (· ≤ reachBytes) = true → Calls C.prog f args W fun e W' => e = .returned (.bool true) ∧ Below W.heap.size W W') :
    ReturnsInHanded {} C os f .any (fun w args => (s.pre enc C.prog fn [] false w args ∧ laidMetH C.prog L w) ∧ sizedMet enc C.prog fn (OpenSpec.ofChange s) false w args)
      (s.post enc C.prog fn false true false false) := by
  refine returnsInHanded_of_change_and (C := C) (X := fun w _ => laidMetH C.prog L w) (fun w w' _ hh h => hX w w' hh h) own started noInit hfn witness ?_
  intro W base args ds gs before hval hW _ hsz hL _
  have hW' := hW
  obtain ⟨p, q, hA, hV, rfl, hfz, hnd⟩ := hW
  rw [hvars] at hV
  obtain ⟨rfl, rfl⟩ := trodVars_none hV
  have hlen : ds.length = fn.params.size := by
    have : ∀ (ts : List TypeId) (vs : List Value) (ds : List (DataW H)) (ps : List MemPlace), DataW.TrodAll enc C.prog W 0 (fun _ => true) true ts vs ds ps → ds.length = ts.length := by
      intro ts
      induction ts with
      | nil => intro vs ds ps h; cases vs <;> cases ds <;> first | rfl | cases h
      | cons t ts ih =>
        intro vs ds ps h
        cases vs with
        | nil => cases ds <;> cases h
        | cons v vs =>
          cases ds with
          | nil => cases h
          | cons d ds =>
            obtain ⟨_, _, _, h2, _⟩ := h
            simp [ih _ _ _ h2]
    simpa using this _ _ _ _ hA
  have hsz2 : (DataW.weightsEach C.prog fn.params.toList ds).all (· ≤ reachBytes) = true := by
    have e : s.plain.varTypes C.prog = [] := by unfold DataSpec.varTypes; rw [show s.plain.vars = [] from hvars]; rfl
    rw [e, List.append_nil, List.append_nil] at hsz
    exact hsz
  refine (contract W base args ds p hval hA hL hsz2).mono fun e W' ⟨he, hb⟩ => ?_
  subst he
  have hlt : ∀ x ∈ p, x.block < W.heap.size := fun x hx => hW'.lt x (List.mem_append_left _ hx)
  refine ⟨_, rfl, _, _, _, [], p, [], hW', ?_, ?_, ?_, hb.frame _, fun h => by cases h⟩
  · rw [hspec ds hlen, hres]; exact trodAll_mk1 (shut_bool htb true)
  · rw [hspec ds hlen]; exact trodAll_stays hlaid hb _ _ _ _ hread hA hlt
  · rw [hspec ds hlen, hvars]; rfl

/-- A text that came in. -/
theorem sized_text {H : Type} {P : Program} {ts : List TypeId} {ds : List (DataW H)} {j : Nat} {t : TypeId} {s : ByteArray} (h : (DataW.weightsEach P ts ds).all (· ≤ reachBytes) = true) (ht : ts[j]? = some t) (hd : ds[j]? = some (.lit (.string s.data.toList))) : s.size ≤ 140737488355328 := by
  have h1 := sized_string h ht hd
  have h2 := reachBytes_lt
  have h3 : s.data.toList.length = s.size := by simp
  omega
end Go.Proofs.YtajhegjemhegiaaDoor
namespace Go.Proofs.YtajhegjemhegiaaDoor
open Go.RowKit TextNat TokenMath

set_option maxRecDepth 100000 in
set_option maxHeartbeats 4000000 in
theorem none_true {R : Rng} (hN : RNewOk R) (hM : MintOk R) (hQ : ReadTOk R) (hZ : TNoneOk) (s : ByteArray) (w : World) (hP : Parts w) (hs : s.size ≤ 140737488355328) :
    Calls Tryd.prog 6 #[.string s] w fun e w' => e = .returned (.bool true) ∧ Below w.heap.size w w' := by
  have HA := Lib.hid (awake_true hN hM hQ w hP)
  have HZ := Lib.hid hZ
  have HP := Lib.hid hP
  have HS := Lib.hid hs
  have HM := Lib.hid hM
  have HN := Lib.hid (fun w1 => hN ⟨#[109]⟩ 0 w1 (by decide) (by decide))
  have HR := Lib.hid (show rightB ⟨#[109]⟩ 0 = true by decide)
  clear hN hM hQ hZ hP hs
  go_enter Tryd.func6, Tryd.ntmps6
  go_wp2_with fail
  refine HA.out.mono ?_
  rintro e w1 ⟨rfl, hb⟩
  have HB := Lib.hid hb
  clear hb HA
  go_wp2_with fail
  refine (basis_ok w1).mono ?_
  rintro e w2 ⟨⟨vb, rfl, hi⟩, hb⟩
  replace HB := Lib.hid (HB.out.trans (hb.mono HB.out.size))
  have HI0 := Lib.hid hi
  clear hi hb
  go_wp2_with fail
  refine (HZ.out.1 (basisV vb) w2 HI0.out (basis_few vb)).mono ?_
  rintro e w3 ⟨⟨x, rfl, hx⟩, hb⟩
  obtain ⟨T, u, rfl⟩ := hx.iface
  have HX := Lib.hid hx
  replace HB := Lib.hid (HB.out.trans (hb.mono HB.out.size))
  clear hx hb
  go_wp2_with fail
  refine (HZ.out.2 s w3 HS.out).mono ?_
  rintro e w4 ⟨⟨y, rfl, hy⟩, hb⟩
  obtain ⟨T2, u2, rfl⟩ := hy.iface
  unfold zeroC
  have HY := Lib.hid hy
  replace HX := Lib.hid (HX.out.below hb)
  replace HB := Lib.hid (HB.out.trans (hb.mono HB.out.size))
  clear hy hb
  go_wp2_with fail
  refine (HN.out _).mono ?_
  rintro e w5 ⟨h1, hb⟩
  replace hb := ((Below.refl w4.heap.size w4).alloc (Nat.le_refl _) _).trans (hb.mono (by simp))
  rw [if_pos HR.out] at h1
  obtain ⟨b, rfl, h1⟩ := h1
  have HH := Lib.hid h1
  replace HX := Lib.hid (HX.out.below hb)
  replace HY := Lib.hid (HY.out.below hb)
  replace HB := Lib.hid (HB.out.trans (hb.mono HB.out.size))
  clear h1 hb HN
  go_wp2_with fail
  refine (basis_ok w5).mono ?_
  rintro e w6 ⟨⟨v2, rfl, hi⟩, hb⟩
  have HI := Lib.hid hi
  replace HH := Lib.hid (HH.out.below hb)
  replace HX := Lib.hid (HX.out.below hb)
  replace HY := Lib.hid (HY.out.below hb)
  replace HB := Lib.hid (HB.out.trans (hb.mono HB.out.size))
  clear hi hb
  go_wp2_with fail
  refine (HasR.mint HM.out HH.out HR.out (HP.out.grown HB.out) (basisV v2) HI.out (basis_few v2)).mono ?_
  rintro e w7 ⟨h3, hb⟩
  unfold MintIs at h3
  rw [if_pos (basis_right v2 0 (by decide) (by decide))] at h3
  obtain rfl := h3
  replace HX := Lib.hid (HX.out.below hb)
  replace HY := Lib.hid (HY.out.below hb)
  replace HB := Lib.hid (HB.out.trans (hb.mono HB.out.size))
  clear hb HI HH
  obtain ⟨TS, hTS⟩ : ∃ TS, TS = txt (tokenOf (nats ⟨#[109]⟩) ((basisV v2).keyed 0).t) := ⟨_, rfl⟩
  rw [← hTS]
  have HTl := Lib.hid (show TS.size ≤ 140737488355328 by
    rw [hTS, txt_len]
    have := token_short (m := nats ⟨#[109]⟩) (rightC_t ((rightC_iff _).1 (basis_right v2 0 (by decide) (by decide))))
    omega)
  clear hTS
  go_wp2_with fail
  refine (HZ.out.2 TS w7 HTl.out).mono ?_
  rintro e w8 ⟨⟨z, rfl, hz⟩, hb⟩
  obtain ⟨T3, u3, rfl⟩ := hz.iface
  unfold zeroC
  have HV := Lib.hid hz
  replace HX := Lib.hid (HX.out.below hb)
  replace HY := Lib.hid (HY.out.below hb)
  replace HB := Lib.hid (HB.out.trans (hb.mono HB.out.size))
  clear hz hb
  go_wp2_with fail
  refine (is_err (HX.out.below ((Below.refl _ _).alloc (Nat.le_refl _) _)) 1).mono ?_
  rintro e w9 ⟨rfl, hw⟩; rw [hw]; clear hw
  go_wp2_with fail
  refine (is_err (HY.out.below ((Below.refl _ _).alloc (Nat.le_refl _) _)) 9).mono ?_
  rintro e w9 ⟨rfl, hw⟩; rw [hw]; clear hw
  go_wp2_with fail
  refine (is_err (HV.out.below ((Below.refl _ _).alloc (Nat.le_refl _) _)) 9).mono ?_
  rintro e w9 ⟨rfl, hw⟩; rw [hw]; clear hw
  go_wp2
  go_ret
  exact ⟨rfl, HB.out.alloc (by have := HB.out.size; omega) _⟩
end Go.Proofs.YtajhegjemhegiaaDoor
