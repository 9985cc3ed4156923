/-
  Rows of texts that a function makes by append, one text a time. No conditions but those typed.
-/
import Derived.Test.YtlgofepmdjlpgaaDoorBakeP1
namespace Go.Proofs.YtlgofepmdjlpgaaDoor
open Go.RowKit TextNat BakeMath

theorem info_text : (Tryd.prog.info? 9).map (fun i => (i.zero, i.size, i.bytes)) = some (some (.string ⟨#[]⟩), 1, 16) := by kernel_rfl
/-- The texts of a row, as cells. -/
def txtVals (P : List (List Nat)) : List Value := P.map fun y => .string (txt y)
/-- A row of texts of one's own. -/
def OwnT (w : World) (B : Nat) (v : Value) (P : List (List Nat)) : Prop := OwnsM w B 9 v P.length (txtVals P)
theorem OwnT.below {w w' : World} {B : Nat} {v : Value} {P : List (List Nat)} (h : OwnT w B v P) (hb : Below w.heap.size w w') : OwnT w' B v P := OwnsM.below h hb fun k hk => (OwnsM.lt h k hk).2
theorem OwnT.alloc {w : World} {B : Nat} {v : Value} {P : List (List Nat)} (h : OwnT w B v P) (o : Obj) : OwnT (w.alloc o) B v P := OwnsM.alloc h o
theorem OwnT.one (w : World) (y : List Nat) : OwnT (w.alloc (.cells #[.string (txt y)] 9)) w.heap.size (.slice (some ⟨w.heap.size, 0, none⟩) 1 1) [y] :=
  ⟨rfl, .inr ⟨w.heap.size, 1, #[.string (txt y)], 0, 0, rfl, Nat.le_refl _, heap_alloc_new w _, .inl rfl, Nat.le_refl _, by unfold maxLen; omega, rfl, rfl⟩⟩
/-- append of one text, which lies in a block of its own. -/
theorem app_one {ops : Array Oper} {rest : List Oper} {o : Oper} {ac : Act} {Q : Exit → Act → World → Prop} {w : World} (hgd : o.guard = none) (s x : Operand)
    (ho : o.op = .call { callee := .builtin .append, args := #[s, x], argTypes := #[44, 44] })
    (B : Nat) (v : Value) (P : List (List Nat)) (hs : ac.eval s = v) (hown : OwnT w B v P) (ad : Addr) (c : Nat) (y : List Nat) (hx : ac.eval x = .slice (some ad) 1 c)
    (hc : w.cell? (ad.add 0) = some (.string (txt y))) (hz : P.length ≤ 1000) (hB : B ≤ w.heap.size)
    (h : ∀ v' w', OwnT w' B v' (P ++ [y]) → Below B w w' → wpList Tryd.prog ops Q rest (ac.put o.dst v') w') : wpList Tryd.prog ops Q (o :: rest) ac w := by
  obtain ⟨ib, hib, hb0, hb1, hb2⟩ := info_parts info_text
  refine wpList_append_m hgd s x 44 ho B 9 ib (.string ⟨#[]⟩) 16 Tryd.underlying44 hib hb0 hb1 hb2 rfl v P.length (txtVals P) hs hown ad 1 c [.string (txt y)] hx rfl (fun j u hu => by
    cases j with
    | zero => rw [hc]; exact hu
    | succ j => simp at hu) (fun u hu => by simp at hu; subst hu; rfl) (by unfold maxLen; omega) (by omega) hB ?_
  intro v' w' h1 h2
  refine h v' w' ?_ ?_
  · show OwnsM w' B 9 v' (P ++ [y]).length (txtVals (P ++ [y]))
    have e : txtVals (P ++ [y]) = txtVals P ++ [.string (txt y)] := by unfold txtVals; rw [List.map_append]; rfl
    rw [e, List.length_append]
    exact h1
  · exact (Below.refl B w).grown h2 hB fun q hq => (OwnsM.lt hown q hq).1
end Go.Proofs.YtlgofepmdjlpgaaDoor
