/-
  WireClaims: for all claims, number and text it returns true and leaves them as they were: claims have the bytes that the document says, or none, and come back from them; cut or with more behind them they are none's. No conditions.
-/
import Derived.Test.YtpmhfoleafjlbaaRowBase
import Derived.Test.YtpmhfoleafjlbaaWireClaims
import Derived.Test.YtpmhfoleafjlbaaWireOpen
namespace Go.Proofs.Ytpmhfoleafjlbaa
open Go.ChangeShapes Go.WideShapes Go.RowKit Go.ChangeMaps

theorem wf_u16 {z : Int} (h : (Lit.int .u16 z).wf = true) : 0 ≤ z ∧ z < 65536 := by
  simp [Lit.wf, IntKind.min, IntKind.max, IntKind.signed, IntKind.bits] at h
  omega
set_option maxRecDepth 100000 in
theorem list_six {α : Type} {cs : Array α} (h : cs.size = 6) : ∃ c0 c1 c2 c3 c4 c5, cs = #[c0, c1, c2, c3, c4, c5] := by
  obtain ⟨l⟩ := cs
  match l, h with
  | [c0, c1, c2, c3, c4, c5], _ => exact ⟨c0, c1, c2, c3, c4, c5, rfl⟩
set_option maxRecDepth 100000 in
/-- Claims that came in. -/
theorem open_claims {H : Type} {enc : TypeId × Value → H} {w : World} {base : Nat} {held : Bool} {r : Reach} {b0 : Nat} {v : Value} {d : DataW H} {p : List MemPlace} (hv : Value.okWide Try.prog w r b0 60 v) (h : DataW.Trod enc Try.prog w base (fun _ => true) held 60 v d p) :
    ∃ x : ClaimsV, v = x.val ∧ Ints w x.cp x.cl ∧ x.small := by
  obtain ⟨cs, rfl, hsz⟩ := okWide_struct Try.underlying60 hv
  obtain ⟨c0, c1, c2, c3, c4, c5, rfl⟩ := list_six (hsz.trans (by kernel_rfl))
  obtain ⟨fuel, hf⟩ := h
  obtain ⟨xs, n, _, _, _, hlen, hfl⟩ := DataW.trod_struct Try.underlying60 hf
  have hlen6 : xs.length = 6 := hlen
  obtain ⟨y0, g0⟩ := field_at hfl 0 9 0 1 6 rfl (by kernel_rfl) hlen6 (by omega)
  obtain ⟨y1, g1⟩ := field_at hfl 1 9 1 1 6 rfl (by kernel_rfl) hlen6 (by omega)
  obtain ⟨y2, g2⟩ := field_at hfl 2 3 2 1 6 rfl (by kernel_rfl) hlen6 (by omega)
  obtain ⟨y3, g3⟩ := field_at hfl 3 3 3 1 6 rfl (by kernel_rfl) hlen6 (by omega)
  obtain ⟨y4, g4⟩ := field_at hfl 4 3 4 1 6 rfl (by kernel_rfl) hlen6 (by omega)
  obtain ⟨y5, g5⟩ := field_at hfl 5 39 5 1 6 rfl (by kernel_rfl) hlen6 (by omega)
  obtain ⟨s0, e0, _, w0⟩ := DataW.trod_string Try.underlying9 g0
  obtain rfl : c0 = .string s0 := by simpa [Value.cells] using e0
  obtain ⟨s1, e1, _, w1⟩ := DataW.trod_string Try.underlying9 g1
  obtain rfl : c1 = .string s1 := by simpa [Value.cells] using e1
  obtain ⟨z2, e2, _, w2⟩ := DataW.trod_int Try.underlying3 g2
  obtain rfl : c2 = .int .i64 z2 := by simpa [Value.cells] using e2
  obtain ⟨z3, e3, _, w3⟩ := DataW.trod_int Try.underlying3 g3
  obtain rfl : c3 = .int .i64 z3 := by simpa [Value.cells] using e3
  obtain ⟨z4, e4, _, w4⟩ := DataW.trod_int Try.underlying3 g4
  obtain rfl : c4 = .int .i64 z4 := by simpa [Value.cells] using e4
  obtain ⟨pp, zs, cap, e5, w5, hz⟩ := cell_ints Try.underlying39 Try.underlying3 (by kernel_rfl) g5
  obtain rfl : c5 = .slice pp zs.length cap := by simpa [Value.cells] using e5
  have hm : zs.length ≤ 9223372036854775807 := by unfold maxLen at w5; omega
  exact ⟨⟨s0, s1, z2, z3, z4, pp, zs, cap⟩, rfl, hz, ⟨wf_i64 w2, wf_i64 w3, wf_i64 w4, hm⟩⟩
set_option maxRecDepth 100000 in
theorem wireClaims_lifted (os : Os) (started : os.Started) (H : Type) (enc : TypeId × Value → H) :
    ReturnsInHanded {} Try.checked os 6 .any (fun w args => Rows.wireClaimsSpec.pre enc Try.prog Try.f6 [] false w args ∧ sizedMet enc Try.prog Try.f6 (OpenSpec.ofChange Rows.wireClaimsSpec) false w args)
      (Rows.wireClaimsSpec.post enc Try.prog Try.f6 false true false false) := by
  refine law_lifted_plain (C := Try.checked) ownNone started (by kernel_rfl) Try.func6 rfl (by kernel_rfl) (by kernel_rfl) rfl Try.underlying4
    (ChangeSpec.witness_at (enc := enc) (C := Try.checked) (os := os) (X := fun w _ => laidMetH Try.prog [] w) false (plainWorld os) #[.agg #[.string ⟨#[]⟩, .string ⟨#[]⟩, .int .i64 0, .int .i64 0, .int .i64 0, .slice none 0 0], .int .u16 0, .string ⟨#[]⟩] 8 rfl (by kernel_rfl) (by kernel_rfl) (by kernel_rfl) (by kernel_rfl) (by kernel_rfl) (laidMet_nil _ _)) ?_ ?_
  · intro ds hd
    match ds, hd with
    | [_, _, _], _ => rfl
  intro W base args ds p hval hA
  rw [Try.params6] at hA hval
  obtain ⟨v0, v1, v2, d0, d1, d2, p0, p1, p2, rfl, rfl, rfl, h0, h1, h2⟩ := trodAll_three hA
  obtain ⟨x, rfl, zx, sx⟩ := open_claims (hval 0 60 v0 rfl rfl) h0
  obtain ⟨z, rfl, _, _, wz⟩ := open_int Try.underlying61 (hval 1 61 v1 rfl rfl) h1
  obtain ⟨s, rfl, rfl, rfl, ws⟩ := open_string Try.underlying9 (hval 2 9 v2 rfl rfl) h2
  have hz := wf_u16 wz
  rw [show (Value.int .u16 z) = Value.int .u16 ((z.toNat : Nat) : Int) from by rw [Int.toNat_of_nonneg hz.1]]
  exact claims_true x z.toNat (by omega) s W zx sx (small_text ws)

theorem wireClaims_holds : Rows.WireClaimsSaid :=
  OpenClaim.holds_of_wide 6 Try.f6 rfl rfl rfl rfl rfl rfl rfl ⟨rfl, rfl, rfl, rfl, rfl⟩ rfl rfl rfl rfl rfl (by kernel_rfl) Try.func6 (by kernel_rfl)
    (of_decide_eq_true (by kernel_rfl)) (by unfold Func.isWrapper; rw [if_neg (of_decide_eq_false (by kernel_rfl))]; exact ⟨rfl, rfl⟩)
    (fun os started H enc _ => wireClaims_lifted os started H enc)

end Go.Proofs.Ytpmhfoleafjlbaa
