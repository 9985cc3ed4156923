/-
  Texts of one claim, merged.
  WriteSized: A write that came in: its value is no longer than the form reaches. No program is run here.
  StoreSized: A write that came in: its session is no longer than the form reaches. No program is run here.
  LawSized: For any program and any law: as XLawRow's, with the form's own reach handed to the contract. No conditions but those typed.
-/
import Derived.Test.YtgbhfhnbmgkaoaaPart18
import Derived.SizedLaws
import Derived.Test.YtgbhfhnbmgkaoaaPart01
namespace Go.Proofs.Ytgbhfhnbmgkaoaa
open Go.RowKit Go.ChangeShapes Go.WideShapes

section
variable {H : Type} {enc : TypeId × Value → H} {w : World} {base : Nat} {held : Bool}
theorem field_is {fs : Array Field} {xs : List (DataW H × List MemPlace)} {cs : List Value} {n : Nat} (hfl : ∀ (i : Nat) (f : Field), fs[i]? = some f → DataW.trod enc Try.prog w base (fun _ => true) held n f.type ((cs.drop f.offset).take (Try.prog.cellsOf f.type)) = xs[i]?)
    (i : Nat) (T : TypeId) (o k : Nat) (hi : (fs[i]?).map (fun f => (f.type, f.offset)) = some (T, o)) (hk : Try.prog.cellsOf T = k) : DataW.trod enc Try.prog w base (fun _ => true) held n T ((cs.drop o).take k) = xs[i]? := by
  obtain ⟨f, hf, he⟩ := Option.map_eq_some_iff.1 hi
  obtain ⟨h1, h2⟩ := Prod.mk.inj he
  have := hfl i f hf
  rw [h1, h2, hk] at this
  exact this
set_option maxRecDepth 100000 in
theorem write_sized {x : WriteV} {d : DataW H} {p : List MemPlace} (h : DataW.Trod enc Try.prog w base (fun _ => true) held 36 x.val d p) (hz : (DataW.weightsEach Try.prog [36] [d]).all (· ≤ reachBytes) = true) : x.value.size ≤ 140737488355328 := by
  obtain ⟨fuel, hf⟩ := h
  obtain ⟨xs, n, _, hx, _, hlen, hfl⟩ := DataW.trod_struct Try.underlying36 hf
  have hlen9 : xs.length = 9 := hlen
  obtain ⟨y, hy⟩ : ∃ y, xs[6]? = some y := ⟨_, List.getElem?_eq_getElem (by omega)⟩
  have g := (field_is hfl 6 9 7 1 rfl (by kernel_rfl)).trans hy
  obtain ⟨s, e1, e2, _⟩ := DataW.trod_string Try.underlying9 g
  have hs : s = x.value := by
    obtain ⟨x0, x1, x2, x3, x4, x5, x6, x7, x8, x9, x10, x11⟩ := x
    have : [Value.string x9] = [Value.string s] := e1
    simpa using this.symm
  subst hs
  obtain ⟨rfl, _⟩ := Prod.mk.inj hx
  have hd : (xs.map (·.1))[6]? = some (.lit (.string x.value.data.toList)) := by rw [List.getElem?_map, hy, e2]; rfl
  have h3 : (DataW.weights Try.prog 36 (.agg (xs.map (·.1)))).all (· ≤ reachBytes) = true := by
    rw [List.all_eq_true] at hz ⊢
    exact fun n hn => hz n (DataW.weights_mem_each (j := 0) rfl rfl n hn)
  unfold DataW.weights at h3
  rw [Try.underlying36] at h3
  have h4 := sized_string h3 (j := 6) (t := 9) rfl hd
  have h5 := reachBytes_lt
  have h6 : x.value.data.toList.length = x.value.size := by simp
  omega
end
end Go.Proofs.Ytgbhfhnbmgkaoaa
namespace Go.Proofs.Ytgbhfhnbmgkaoaa
open Go.RowKit Go.ChangeShapes Go.WideShapes

section
variable {H : Type} {enc : TypeId × Value → H} {w : World} {base : Nat} {held : Bool}
set_option maxRecDepth 100000 in
theorem session_sized {x : WriteV} {d : DataW H} {p : List MemPlace} {ts : List TypeId} {ds : List (DataW H)} {j : Nat} (h : DataW.Trod enc Try.prog w base (fun _ => true) held 36 x.val d p) (hz : (DataW.weightsEach Try.prog ts ds).all (· ≤ reachBytes) = true) (ht : ts[j]? = some 36) (hd0 : ds[j]? = some d) : x.session.size ≤ 140737488355328 := by
  obtain ⟨fuel, hf⟩ := h
  obtain ⟨xs, n, _, hx, _, hlen, hfl⟩ := DataW.trod_struct Try.underlying36 hf
  have hlen9 : xs.length = 9 := hlen
  obtain ⟨y, hy⟩ : ∃ y, xs[4]? = some y := ⟨_, List.getElem?_eq_getElem (by omega)⟩
  have g := (field_is hfl 4 9 5 1 rfl (by kernel_rfl)).trans hy
  obtain ⟨s, e1, e2, _⟩ := DataW.trod_string Try.underlying9 g
  have hs : s = x.session := by
    obtain ⟨x0, x1, x2, x3, x4, x5, x6, x7, x8, x9, x10, x11⟩ := x
    have : [Value.string x7] = [Value.string s] := e1
    simpa using this.symm
  subst hs
  obtain ⟨rfl, _⟩ := Prod.mk.inj hx
  have hd : (xs.map (·.1))[4]? = some (.lit (.string x.session.data.toList)) := by rw [List.getElem?_map, hy, e2]; rfl
  have h3 : (DataW.weights Try.prog 36 (.agg (xs.map (·.1)))).all (· ≤ reachBytes) = true := by
    rw [List.all_eq_true] at hz ⊢
    exact fun n hn => hz n (DataW.weights_mem_each ht hd0 n hn)
  unfold DataW.weights at h3
  rw [Try.underlying36] at h3
  have h4 := sized_string h3 (j := 4) (t := 9) rfl hd
  have h5 := reachBytes_lt
  have h6 : x.session.data.toList.length = x.session.size := by simp
  omega
end
end Go.Proofs.Ytgbhfhnbmgkaoaa
namespace Go.Proofs.Ytgbhfhnbmgkaoaa
open Go.RowKit Go.ChangeShapes Go.WideShapes

/-- .. where the contract also wants the form's own reach: no string or slice that came in takes 2^47 bytes. -/
theorem law_lifted_sized {C : Checked} {f : FuncId} {fn : Func} {s : ChangeSpec} {L : List (String × DataW Unit)} {tb : TypeId} {os : Os} {H : Type} {enc : TypeId × Value → H}
    (hX : ∀ w w' : World, w.heap = w'.heap → laidMetH C.prog L w → laidMetH C.prog L w')
    (own : ownKnob C.prog.godebug = none) (started : os.Started) (noInit : C.prog.inits.idxOf? f = none) (hfn : C.prog.funcs[f]? = some fn) (hvars : s.vars = []) (hlaid : laidOutB C.prog = true)
    (hread : (fn.params.toList.all fun t => C.prog.readableRec t && decide (t < C.prog.types.size)) = true) (hres : fn.resultTypes = #[tb]) (htb : C.prog.underlying tb = some .bool)
    (witness : ∃ (w : World) (tape : Tape) (i : Input), w.os = os ∧ (w.forCall tape i).Shaped C.prog ∧ i.vars = [] ∧ Input.okWide C.prog (w.forCall tape i) .any w.heap.size f i ∧
      ((s.pre enc C.prog fn [] false (w.forCall tape i).memory i.args ∧ laidMetH C.prog L (w.forCall tape i).memory) ∧ sizedMet enc C.prog fn (OpenSpec.ofChange s) false (w.forCall tape i).memory i.args) ∧ ({} : Assume).holds C.prog (lone (Frame.enter C.prog f i.args .normal) [] (w.forCall tape i)))
    (hspec : ∀ ds : List (DataW H), ds.length = fn.params.size → s.fn H (ds ++ []) = { results := [.lit (.bool true)], args := ds })
    (contract : ∀ (W : World) (base : Nat) (args : Array Value) (ds : List (DataW H)) (p : List MemPlace), (∀ (j : Nat) t v, fn.params[j]? = some t → args[j]? = some v → Value.okWide C.prog W .any base t v) →
      DataW.TrodAll enc C.prog W 0 (fun _ => true) true fn.params.toList args.toList ds p → laidMetH C.prog L W → (DataW.weightsEach C.prog fn.params.toList ds).all (· ≤ reachBytes) = true → Calls C.prog f args W fun e W' => e = .returned (.bool true) ∧ Below W.heap.size W W') :
    ReturnsInHanded {} C os f .any (fun w args => (s.pre enc C.prog fn [] false w args ∧ laidMetH C.prog L w) ∧ sizedMet enc C.prog fn (OpenSpec.ofChange s) false w args)
      (s.post enc C.prog fn false true false false) := by
  refine returnsInHanded_of_change_and (C := C) (X := fun w _ => laidMetH C.prog L w) (fun w w' _ hh h => hX w w' hh h) own started noInit hfn witness ?_
  intro W base args ds gs before hval hW _ hsz hL _
  have hW' := hW
  obtain ⟨p, q, hA, hV, rfl, hfz, hnd⟩ := hW
  rw [hvars] at hV
  obtain ⟨rfl, rfl⟩ := trodVars_none hV
  have hlen : ds.length = fn.params.size := by
    have : ∀ (ts : List TypeId) (vs : List Value) (ds : List (DataW H)) (ps : List MemPlace), DataW.TrodAll enc C.prog W 0 (fun _ => true) true ts vs ds ps → ds.length = ts.length := by
      intro ts
      induction ts with
      | nil => intro vs ds ps h; cases vs <;> cases ds <;> first | rfl | cases h
      | cons t ts ih =>
        intro vs ds ps h
        cases vs with
        | nil => cases ds <;> cases h
        | cons v vs =>
          cases ds with
          | nil => cases h
          | cons d ds =>
            obtain ⟨_, _, _, h2, _⟩ := h
            simp [ih _ _ _ h2]
    simpa using this _ _ _ _ hA
  have hsz2 : (DataW.weightsEach C.prog fn.params.toList ds).all (· ≤ reachBytes) = true := by
    have e : s.plain.varTypes C.prog = [] := by unfold DataSpec.varTypes; rw [show s.plain.vars = [] from hvars]; rfl
    rw [e, List.append_nil, List.append_nil] at hsz
    exact hsz
  refine (contract W base args ds p hval hA hL hsz2).mono fun e W' ⟨he, hb⟩ => ?_
  subst he
  have hlt : ∀ x ∈ p, x.block < W.heap.size := fun x hx => hW'.lt x (List.mem_append_left _ hx)
  refine ⟨_, rfl, _, _, _, [], p, [], hW', ?_, ?_, ?_, hb.frame _, fun h => by cases h⟩
  · rw [hspec ds hlen, hres]; exact trodAll_mk1 (shut_bool htb true)
  · rw [hspec ds hlen]; exact trodAll_stays hlaid hb _ _ _ _ hread hA hlt
  · rw [hspec ds hlen, hvars]; rfl

/-- .. of rows that list no variable. -/
theorem law_lifted_sized_plain {C : Checked} {f : FuncId} {fn : Func} {s : ChangeSpec} {tb : TypeId} {os : Os} {H : Type} {enc : TypeId × Value → H}
    (own : ownKnob C.prog.godebug = none) (started : os.Started) (noInit : C.prog.inits.idxOf? f = none) (hfn : C.prog.funcs[f]? = some fn) (hvars : s.vars = []) (hlaid : laidOutB C.prog = true)
    (hread : (fn.params.toList.all fun t => C.prog.readableRec t && decide (t < C.prog.types.size)) = true) (hres : fn.resultTypes = #[tb]) (htb : C.prog.underlying tb = some .bool)
    (witness : ∃ (w : World) (tape : Tape) (i : Input), w.os = os ∧ (w.forCall tape i).Shaped C.prog ∧ i.vars = [] ∧ Input.okWide C.prog (w.forCall tape i) .any w.heap.size f i ∧
      ((s.pre enc C.prog fn [] false (w.forCall tape i).memory i.args ∧ laidMetH C.prog [] (w.forCall tape i).memory) ∧ sizedMet enc C.prog fn (OpenSpec.ofChange s) false (w.forCall tape i).memory i.args) ∧ ({} : Assume).holds C.prog (lone (Frame.enter C.prog f i.args .normal) [] (w.forCall tape i)))
    (hspec : ∀ ds : List (DataW H), ds.length = fn.params.size → s.fn H (ds ++ []) = { results := [.lit (.bool true)], args := ds })
    (contract : ∀ (W : World) (base : Nat) (args : Array Value) (ds : List (DataW H)) (p : List MemPlace), (∀ (j : Nat) t v, fn.params[j]? = some t → args[j]? = some v → Value.okWide C.prog W .any base t v) →
      DataW.TrodAll enc C.prog W 0 (fun _ => true) true fn.params.toList args.toList ds p → (DataW.weightsEach C.prog fn.params.toList ds).all (· ≤ reachBytes) = true → Calls C.prog f args W fun e W' => e = .returned (.bool true) ∧ Below W.heap.size W W') :
    ReturnsInHanded {} C os f .any (fun w args => s.pre enc C.prog fn [] false w args ∧ sizedMet enc C.prog fn (OpenSpec.ofChange s) false w args)
      (s.post enc C.prog fn false true false false) := by
  have h := law_lifted_sized (L := []) (fun _ _ hh h => h.of_heap hh) own started noInit hfn hvars hlaid hread hres htb witness hspec (fun W base args ds p h1 h2 _ h3 => contract W base args ds p h1 h2 h3)
  have e : (fun (w : World) (args : Array Value) => (s.pre enc C.prog fn [] false w args ∧ laidMetH C.prog [] w) ∧ sizedMet enc C.prog fn (OpenSpec.ofChange s) false w args) = fun w args => s.pre enc C.prog fn [] false w args ∧ sizedMet enc C.prog fn (OpenSpec.ofChange s) false w args := by
    funext w a
    have : laidMetH C.prog [] w = True := eq_true (laidMet_nil _ _)
    rw [this, and_true]
  rw [e] at h
  exact h
/-- A text that came in. -/
theorem sized_text {H : Type} {P : Program} {ts : List TypeId} {ds : List (DataW H)} {j : Nat} {t : TypeId} {s : ByteArray} (h : (DataW.weightsEach P ts ds).all (· ≤ reachBytes) = true) (ht : ts[j]? = some t) (hd : ds[j]? = some (.lit (.string s.data.toList))) : s.size ≤ 140737488355328 := by
  have h1 := sized_string h ht hd
  have h2 := reachBytes_lt
  have h3 : s.data.toList.length = s.size := by simp
  omega
end Go.Proofs.Ytgbhfhnbmgkaoaa
