/-
  One block of the document's own Digest of chapter 3: the round of its outer loop, taken out of the translation. The conditions: the message's cells, the constants' and the last block's words are told.
-/
import Derived.Test.YtajhegjemhegiaaGreatDoorPart01
import Derived.Test.YtajhegjemhegiaaGreatDoorPart03
import Derived.Test.YtajhegjemhegiaaGreatDoorPart12
import Derived.Test.YtajhegjemhegiaaGreatDoorPart13
import Derived.BigQuiet
import Derived.Deep.RegionWith
import Derived.Deep.RegionLaw
import Derived.StillTailTactics
namespace Go.Proofs.YtajhegjemhegiaaGreatDoor
open Go.RowKit ShaMath TextNat

theorem infoB : (Tryz.prog.info? 5).map (fun i => (i.zero, i.size, i.bytes)) = some (some (.int .u8 0), 1, 1) := by kernel_rfl
theorem infoW : (Tryz.prog.info? 125).map (fun i => (i.zero, i.size, i.bytes)) = some (some (.int .u32 0), 1, 4) := by kernel_rfl

theorem byteVals_nats (s : ByteArray) : (s.data.toList.map fun (b : UInt8) => Value.int .u8 (b.toNat : Int)) = byteVals (nats s) := by
  simp [byteVals, nats, Function.comp_def]
theorem byteVals_append (a b : List Nat) : byteVals (a ++ b) = byteVals a ++ byteVals b := by simp [byteVals]
theorem one_new (w : World) (u : Value) (T : TypeId) : ∀ j x, [u][j]? = some x → (w.alloc (.cells #[u] T)).cell? ((⟨w.heap.size, 0, none⟩ : Addr).add j) = some x := by
  intro j x hj
  match j, hj with
  | 0, hj => simp at hj; subst hj; simp [Addr.add]

theorem one_at (w : World) (u : Value) (T : TypeId) (B : Nat) (hB : B = w.heap.size) : ∀ j x, [u][j]? = some x → (w.alloc (.cells #[u] T)).cell? ((⟨B, 0, none⟩ : Addr).add j) = some x := by
  subst hB
  exact one_new w u T

theorem cells_new (w : World) (l : List Value) (T : TypeId) (B : Nat) (hB : B = w.heap.size) : ∀ j x, l[j]? = some x → (w.alloc (.cells l.toArray T)).cell? ((⟨B, 0, none⟩ : Addr).add j) = some x := by
  subst hB
  intro j x hj
  rw [WideShapes.add_plain, Nat.zero_add, World.cell?_alloc_mark]
  simpa using hj
theorem eight_vals (x : Nat) : byteVals (eight x) = [.int .u8 ((x : Int) / 256 / 256 / 256 / 256 / 256 / 256 / 256 % 256), .int .u8 ((x : Int) / 256 / 256 / 256 / 256 / 256 / 256 % 256), .int .u8 ((x : Int) / 256 / 256 / 256 / 256 / 256 % 256), .int .u8 ((x : Int) / 256 / 256 / 256 / 256 % 256), .int .u8 ((x : Int) / 256 / 256 / 256 % 256), .int .u8 ((x : Int) / 256 / 256 % 256), .int .u8 ((x : Int) / 256 % 256), .int .u8 ((x : Int) % 256)] := by
  simp only [byteVals, eight, four, List.map_cons, List.map_nil, List.cons_append, List.nil_append]
  simp only [List.cons.injEq, Value.int.injEq, true_and, and_true]
  omega
theorem four_vals (x : Nat) : byteVals (four x) = [.int .u8 ((x : Int) / 256 / 256 / 256 % 256), .int .u8 ((x : Int) / 256 / 256 % 256), .int .u8 ((x : Int) / 256 % 256), .int .u8 ((x : Int) % 256)] := by
  simp only [byteVals, four, List.map_cons, List.map_nil]
  simp only [List.cons.injEq, Value.int.injEq, true_and, and_true]
  omega
theorem number_eight' (x : Nat) (w : World) (hx : x ≤ 18446744073709551615) :
    Calls Tryz.prog 51 #[.int .u64 (x : Int), .int .i64 8] w fun e w' => e = .returned (.slice (some ⟨w.heap.size, 0, none⟩) 8 8) ∧ w' = w.alloc (.cells (byteVals (eight x)).toArray 5) := by
  refine (number_eight (x : Int) w (by omega) (by omega)).mono ?_
  rintro e w' ⟨rfl, rfl⟩
  rw [eight_vals]
  exact ⟨rfl, rfl⟩
theorem number_four' (x : Nat) (w : World) (hx : x ≤ 18446744073709551615) :
    Calls Tryz.prog 51 #[.int .u64 (x : Int), .int .i64 4] w fun e w' => e = .returned (.slice (some ⟨w.heap.size, 0, none⟩) 4 4) ∧ w' = w.alloc (.cells (byteVals (four x)).toArray 5) := by
  refine (number_four (x : Int) w (by omega) (by omega)).mono ?_
  rintro e w' ⟨rfl, rfl⟩
  rw [four_vals]
  exact ⟨rfl, rfl⟩

/-- A block's cells are these words. -/
def Words (w : World) (B : Nat) (l : List Nat) : Prop := ∀ i z : Nat, l[i]? = some z → z < 4294967296 ∧ w.cell? ⟨B, i, none⟩ = some (.int .u32 (z : Int))
theorem Words.grown {w w' : World} {B : Nat} {l : List Nat} (h : Words w B l) (hb : Below w.heap.size w w') : Words w' B l := fun i z hz => by
  obtain ⟨h1, h3⟩ := h i z hz
  exact ⟨h1, (hb.cell (p := ⟨B, i, none⟩) (World.block_lt_of_cell? w _ h3)).trans h3⟩
def wordVals (l : List Nat) : List Value := l.map fun (z : Nat) => Value.int .u32 (z : Int)
theorem wordVals_at (l : List Nat) (i : Nat) : (wordVals l)[i]? = l[i]?.map fun (z : Nat) => Value.int .u32 (z : Int) := by simp [wordVals]
theorem wordVals_append (a b : List Nat) : wordVals (a ++ b) = wordVals a ++ wordVals b := by simp [wordVals]
theorem words_new (w : World) (l : List Nat) (T : TypeId) (hl : ∀ z ∈ l, z < 4294967296) : Words (w.alloc (.cells (wordVals l).toArray T)) w.heap.size l := by
  intro i z hz
  refine ⟨hl z (List.mem_of_getElem? hz), ?_⟩
  rw [World.cell?_alloc_mark]
  simp [wordVals, hz]
theorem kCells_vals : kCells = (wordVals ks).toArray := rfl
theorem ks_lt : ∀ z ∈ ks, z < 4294967296 := by decide
theorem regs_lt {r : Regs} (h : r.Ok) : ∀ z ∈ r.list, z < 4294967296 := by
  intro z hz
  simp only [Regs.list, List.mem_cons, List.not_mem_nil, or_false] at hz
  obtain ⟨h1, h2, h3, h4, h5, h6, h7, h8⟩ := h
  rcases hz with rfl | rfl | rfl | rfl | rfl | rfl | rfl | rfl <;> assumption

/-- Bytes in memory, as a text. -/
theorem text_any (w : World) (B cap : Nat) (D : List Nat) (hD : ∀ b ∈ D, b < 256) (hc : ∀ j, j < D.length → w.cell? ⟨B, j, none⟩ = (byteVals D)[j]?) :
    (convert 99 9 (.slice (some ⟨B, 0, none⟩) D.length cap)).run Tryz.prog w = .ok (.string (txt D)) w := by
  have h := run_convert_bytes_back (P := Tryz.prog) w 99 9 5 ⟨B, 0, none⟩ cap (D.map UInt8.ofNat) Tryz.underlying99 Tryz.underlying5 Tryz.underlying9 (fun j hj => by
    have hj' : j < D.length := by simpa using hj
    rw [WideShapes.add_plain, Nat.zero_add, hc j hj', byteVals_at, List.getElem?_eq_getElem hj']
    have hb := hD D[j] (List.getElem_mem hj')
    simp [Nat.mod_eq_of_lt hb])
  rw [List.length_map] at h
  exact h

/-- The bodies of a code's loops, the outer ones first. -/
def loopsOf : Code → List Code
  | .loop c => c :: loopsOf c
  | .seq a b => loopsOf a ++ loopsOf b
  | .block _ c => loopsOf c
  | .scope c => loopsOf c
  | .cond _ a b => loopsOf a ++ loopsOf b
  | _ => []
noncomputable def blockBody : Code := ((Tryz.f50.body.map loopsOf).getD []).getD 1 .skip

set_option maxRecDepth 1000000 in
set_option maxHeartbeats 16000000 in
theorem block_round (m : List Nat) (gm cm K H nb NB : Nat) (wr : World) (hlt : nb < NB) (hL : m.length = 64 * NB) (hmb2 : m.length ≤ 20000) (hmt : ∀ b ∈ m, b < 256) (hm : Bytes wr (some ⟨gm, 0, none⟩) m) (hk : Words wr K ks) (hh0 : Words wr H (blocks m nb).list)
    (u0 u1 u2 u7 u8 u9 u10 u11 u12 u13 u14 u15 u16 u17 u18 u19 u20 u21 u22 u23 u24 u25 u26 u27 u28 u29 u30 u31 u32 u33 u34 u35 u36 u37 u38 u39 u40 u41 u42 u43 u44 u45 u46 u47 u48 u49 u50 u51 u52 u53 u54 u55 u56 u57 u58 u59 u60 u61 u62 u63 u64 u65 u66 u67 u68 u69 u70 u71 u72 u73 u74 u75 u76 u77 u78 u79 u80 u81 u82 u83 u84 u85 u86 u87 u88 u89 u90 u91 u92 u93 u94 u95 u96 u97 u98 u99 u100 u101 u102 u103 u104 u105 u106 u107 u108 u109 u110 u111 u112 u113 u114 u115 u116 u117 u118 u119 u120 u121 u122 u123 u124 u125 u126 u127 u128 u129 u130 u131 u132 u133 u134 u135 u136 u137 u138 u139 u140 u141 u142 u143 u144 u145 u146 u147 u148 u149 u150 u151 u152 u153 u154 u155 u156 u157 u158 u159 u160 u161 u162 u163 u164 u165 u166 u167 u168 u169 u170 u171 u172 u173 u174 u175 u176 u177 u178 u179 u180 u181 u182 u183 u184 u185 u186 u187 u188 u189 u190 u191 u192 u193 u194 u195 u196 u197 u198 u199 u200 u201 u202 u203 u204 u205 u206 u207 u208 u209 u210 u211 u212 u213 u214 u215 u216 u217 u218 u219 u220 u221 u222 u223 u224 u225 u226 u227 u228 u229 u230 u231 u232 u233 u234 u235 u236 u237 u238 u239 u240 u241 u242 u243 u244 u245 u246 u247 u248 u249 u250 u251 u252 u253 u254 u255 u256 u257 u258 u259 u260 u261 u262 u263 u264 u265 u266 u267 u268 u269 u270 u271 u272 u273 u274 u275 u276 u277 u278 u279 u280 u281 u282 u283 u284 u285 : Value) (Kc Kd : Act → World → Prop) (R : Ending → World → Prop)
    (hK : ∀ (v7 v8 v9 v10 v11 v12 v13 v14 v15 v16 v17 v18 v19 v20 v21 v22 v23 v24 v47 v48 v49 v50 v51 v52 v53 v54 v55 v56 v57 v58 v59 v60 v61 v62 v63 v64 v65 v66 v67 v68 v69 v70 v71 v72 v73 v74 v75 v76 v77 v78 v79 v80 v81 v82 v83 v84 v85 v86 v87 v88 v89 v90 v91 v92 v93 v94 v95 v96 v97 v98 v99 v100 v101 v102 v103 v104 v105 v106 v107 v108 v109 v110 v111 v112 v113 v114 v115 v116 v117 v118 v119 v120 v121 v122 v123 v124 v125 v126 v127 v128 v129 v130 v131 v132 v133 v134 v135 v136 v137 v138 v139 v140 v141 v142 v143 v144 v145 v146 v147 v148 v149 v150 v151 v152 v153 v154 v155 v156 v157 v158 v159 v160 v161 v162 v163 v164 v165 v166 v167 v168 v169 v170 v171 v172 v173 v174 v175 v176 v177 v178 v179 v180 v181 v182 v183 v184 v185 v186 v187 v188 v189 v190 v191 v192 v193 v194 v195 v196 v197 v198 v199 v200 v201 v202 v203 v204 v205 v206 v207 v208 v209 v210 v211 v212 v213 v214 v215 v216 v217 v218 v219 v220 v221 v222 v223 v224 v225 v226 v227 v228 v229 v230 v231 v232 v233 v234 v235 v236 v237 v238 v239 v240 v241 v242 v243 v244 v245 v246 v247 v248 v249 v250 v251 v252 v253 v254 v255 v256 v257 v258 v259 v260 v261 v262 v263 v264 v265 v266 v267 v268 v269 v270 : Value) (H' : Nat) (w' : World), Words w' H' (blocks m (nb + 1)).list → Below wr.heap.size wr w' → Kc ⟨#[u0, u1, u2, .slice (some ⟨gm, 0, none⟩) (64 * NB) cm, .slice (some ⟨H', 0, none⟩) 8 8, .slice (some ⟨K, 0, none⟩) 64 64, .int .i64 (64 * (nb + 1) : Nat), v7, v8, v9, v10, v11, v12, v13, v14, v15, v16, v17, v18, v19, v20, v21, v22, v23, v24, u25, u26, u27, u28, u29, u30, u31, u32, u33, u34, u35, u36, u37, u38, u39, u40, u41, u42, u43, u44, u45, u46, v47, v48, v49, v50, v51, v52, v53, v54, v55, v56, v57, v58, v59, v60, v61, v62, v63, v64, v65, v66, v67, v68, v69, v70, v71, v72, v73, v74, v75, v76, v77, v78, v79, v80, v81, v82, v83, v84, v85, v86, v87, v88, v89, v90, v91, v92, v93, v94, v95, v96, v97, v98, v99, v100, v101, v102, v103, v104, v105, v106, v107, v108, v109, v110, v111, v112, v113, v114, v115, v116, v117, v118, v119, v120, v121, v122, v123, v124, v125, v126, v127, v128, v129, v130, v131, v132, v133, v134, v135, v136, v137, v138, v139, v140, v141, v142, v143, v144, v145, v146, v147, v148, v149, v150, v151, v152, v153, v154, v155, v156, v157, v158, v159, v160, v161, v162, v163, v164, v165, v166, v167, v168, v169, v170, v171, v172, v173, v174, v175, v176, v177, v178, v179, v180, v181, v182, v183, v184, v185, v186, v187, v188, v189, v190, v191, v192, v193, v194, v195, v196, v197, v198, v199, v200, v201, v202, v203, v204, v205, v206, v207, v208, v209, v210, v211, v212, v213, v214, v215, v216, v217, v218, v219, v220, v221, v222, v223, v224, v225, v226, v227, v228, v229, v230, v231, v232, v233, v234, v235, v236, v237, v238, v239, v240, v241, v242, v243, v244, v245, v246, v247, v248, v249, v250, v251, v252, v253, v254, v255, v256, v257, v258, v259, v260, v261, v262, v263, v264, v265, v266, v267, v268, v269, v270, u271, u272, u273, u274, u275, u276, u277, u278, u279, u280, u281, u282, u283, u284, u285], []⟩ w') :
    Code.wp Tryz.prog blockBody (Exit.then Kc (Exit.inBlock 2 (Exit.then Kd (bodyPost Tryz.prog Tryz.f50 R)))) ⟨#[u0, u1, u2, .slice (some ⟨gm, 0, none⟩) (64 * NB) cm, .slice (some ⟨H, 0, none⟩) 8 8, .slice (some ⟨K, 0, none⟩) 64 64, .int .i64 (64 * nb : Nat), u7, u8, u9, u10, u11, u12, u13, u14, u15, u16, u17, u18, u19, u20, u21, u22, u23, u24, u25, u26, u27, u28, u29, u30, u31, u32, u33, u34, u35, u36, u37, u38, u39, u40, u41, u42, u43, u44, u45, u46, u47, u48, u49, u50, u51, u52, u53, u54, u55, u56, u57, u58, u59, u60, u61, u62, u63, u64, u65, u66, u67, u68, u69, u70, u71, u72, u73, u74, u75, u76, u77, u78, u79, u80, u81, u82, u83, u84, u85, u86, u87, u88, u89, u90, u91, u92, u93, u94, u95, u96, u97, u98, u99, u100, u101, u102, u103, u104, u105, u106, u107, u108, u109, u110, u111, u112, u113, u114, u115, u116, u117, u118, u119, u120, u121, u122, u123, u124, u125, u126, u127, u128, u129, u130, u131, u132, u133, u134, u135, u136, u137, u138, u139, u140, u141, u142, u143, u144, u145, u146, u147, u148, u149, u150, u151, u152, u153, u154, u155, u156, u157, u158, u159, u160, u161, u162, u163, u164, u165, u166, u167, u168, u169, u170, u171, u172, u173, u174, u175, u176, u177, u178, u179, u180, u181, u182, u183, u184, u185, u186, u187, u188, u189, u190, u191, u192, u193, u194, u195, u196, u197, u198, u199, u200, u201, u202, u203, u204, u205, u206, u207, u208, u209, u210, u211, u212, u213, u214, u215, u216, u217, u218, u219, u220, u221, u222, u223, u224, u225, u226, u227, u228, u229, u230, u231, u232, u233, u234, u235, u236, u237, u238, u239, u240, u241, u242, u243, u244, u245, u246, u247, u248, u249, u250, u251, u252, u253, u254, u255, u256, u257, u258, u259, u260, u261, u262, u263, u264, u265, u266, u267, u268, u269, u270, u271, u272, u273, u274, u275, u276, u277, u278, u279, u280, u281, u282, u283, u284, u285], []⟩ wr := by
  obtain ⟨iw, hiw, hw0, hw1, hw2⟩ := info_parts infoW
  have HNB := Lib.hid hL
  have HMT := Lib.hid hmt
  have hh := Lib.hid hh0
  have HKQ := Lib.hid hK
  clear hmt hh0 hK
  conv => arg 2; whnf
  dsimp only at HKQ ⊢
  obtain ⟨w6, hw6⟩ : ∃ w6, w6 = wr := ⟨_, rfl⟩
  subst hw6
  have HM6 := Lib.hid hm
  have HK6 := Lib.hid hk
  have HO := Lib.hid (OwnsM.of (World.ownsRow_made (base := w6.heap.size) (e := 125) (size := 1) w6 #[] 0 (Nat.le_refl _) (by simp) (by simp)))
  have HA := Lib.hid ((Below.refl w6.heap.size w6).alloc (Nat.le_refl _) (.cells #[] 125))
  go_wp2_with fail
  go_loopg [7, 8] 16 (fun g s7 s8 wx => ∃ t : Nat, t + g = 16 ∧ s8 = .int .i64 (t : Int) ∧ OwnsM wx w6.heap.size 125 s7 t (wordVals (first m (64 * nb) t)) ∧ Below w6.heap.size w6 wx)
  case atStart => exact ⟨0, rfl, by go_num, HO.out, HA.out⟩
  case round =>
    clear HO HA
    obtain ⟨t, ht, rfl, hown, hb⟩ := hrel
    by_cases h16 : t < 16
    · obtain ⟨w7, hw7⟩ : ∃ w7, w7 = wr := ⟨_, rfl⟩
      subst hw7
      have HO := Lib.hid hown
      have HB7 := Lib.hid hb
      have h16' : (t : Int) < 16 := by omega
      clear hown hb
      obtain ⟨pt, hpt⟩ : ∃ pt, pt = 64 * nb + 4 * t := ⟨_, rfl⟩
      have HPT := Lib.hid hpt
      clear hpt
      go_wp2_with fail
      go_loopg [9, 10] 4 (fun g s9 s10 wx => ∃ i x : Nat, i + g = 4 ∧ s10 = .int .i64 (i : Int) ∧ s9 = .int .u32 (x : Int) ∧ Hid (x = ShaMath.part m pt i) ∧ wx = w7)
      case atStart => exact ⟨0, 0, rfl, by go_num, by go_num, Lib.hid rfl, rfl⟩
      case round =>
        obtain ⟨i, x, hi, rfl, rfl, hx, rfl⟩ := hrel
        by_cases h4 : i < 4
        · have hpt := HPT.out
          obtain ⟨e, he⟩ : ∃ e, e = pt + i := ⟨_, rfl⟩
          have hel : e < m.length := by omega
          obtain ⟨hb8, b, o, hp, c0⟩ := HM6.out e _ (List.getElem?_eq_getElem hel)
          obtain ⟨rfl, rfl⟩ : b = gm ∧ o = 0 := by simp only [Option.some.injEq, Addr.mk.injEq] at hp; exact ⟨hp.1.symm, hp.2.1.symm⟩
          obtain ⟨z, hz⟩ : ∃ z, z = m[e] := ⟨_, rfl⟩
          rw [← hz] at c0 hb8
          have c1 := (HB7.out.cell (p := ⟨b, 0 + e, none⟩) (World.block_lt_of_cell? w6 _ c0)).trans c0
          rw [Nat.zero_add, show e = 64 * nb + 4 * t + i by omega] at c1
          have hzd : m.getD (pt + i) 0 = z := by rw [hz, ← he]; simp [List.getD, hel]
          have HX := Lib.hid (show x * 256 + z = ShaMath.part m pt (i + 1) by rw [part_succ, hzd, hx.out])
          have hxl : x ≤ 16777215 := by
            have h1 := part_lt HMT.out pt i
            rw [← hx.out] at h1
            have h2 : 256 ^ i ≤ 256 ^ 3 := Nat.pow_le_pow_right (by decide) (by omega)
            omega
          have k1 : 64 * nb + 4 * t + i < 64 * NB := by omega
          have h4' : (i : Int) < 4 := by omega
          clear hz hzd c0 he hp hpt
          go_wp2
          go_roundg (4 - (i + 1))
          case measure => omega
          case rel => exact ⟨i + 1, x * 256 + z, by omega, by go_num, by go_num, HX, rfl⟩
        · obtain rfl : i = 4 := by omega
          have HX := Lib.hid (show x = wordAt m (64 * nb) t by rw [hx.out, HPT.out]; exact part_word m (64 * nb) t)
          have HOA := Lib.hid (HO.out.alloc (.cells #[.int .u32 (x : Int)] 125))
          have HB8 := Lib.hid (HB7.out.alloc HB7.out.size (.cells #[.int .u32 (x : Int)] 125))
          have hs7 := HB7.out.size
          obtain ⟨p7, c7, rfl⟩ := HO.out.shape
          clear h4 hx
          go_wp2_with ((at_builtin; refine wpList_append_m rfl _ _ 137 rfl w6.heap.size 125 iw (.int .u32 0) 4 Tryz.underlying137 hiw hw0 hw1 hw2 rfl _ _ _ rfl HOA.out ⟨_, 0, none⟩ 1 1 [.int .u32 (x : Int)] rfl rfl (one_at _ _ _ _ rfl) (fun u hu => by simp at hu; subst hu; rfl) (by unfold maxLen; omega) (by omega) (by simp; omega) ?_; intro v9 w9 hown9 hgrow9))
          have hB9 : Below w6.heap.size w6 w9 := HB8.out.grown hgrow9 (by simp; omega) (fun q hq => (HOA.out.lt q hq).1)
          go_roundg (16 - (t + 1))
          case measure => omega
          case rel => exact ⟨t + 1, by omega, by go_num, by rw [show ShaMath.first m (64 * nb) (t + 1) = ShaMath.first m (64 * nb) t ++ [wordAt m (64 * nb) t] from rfl, wordVals_append, ← HX.out]; exact hown9, hB9⟩
    · obtain rfl : t = 16 := by omega
      have HO := Lib.hid (show OwnsM wr w6.heap.size 125 _ 16 (wordVals (sched m (64 * nb) 0)) from hown)
      have HB := Lib.hid hb
      obtain ⟨p7, c7, rfl⟩ := hown.shape
      clear hown hb h16
      go_wp2_with fail
      go_loopg [7, 11] 48 (fun g s7 s11 wx => ∃ q : Nat, q + g = 48 ∧ s11 = .int .i64 ((q : Int) + 16) ∧ OwnsM wx w6.heap.size 125 s7 (q + 16) (wordVals (sched m (64 * nb) q)) ∧ Below w6.heap.size w6 wx)
      case atStart => exact ⟨0, rfl, by go_num, HO.out, HB.out⟩
      case round =>
        clear HO HB
        obtain ⟨q, hq, rfl, hown, hb⟩ := hrel
        obtain ⟨g7, c7, rfl, hg7, hgl7, hq1, hq2, hcl, _⟩ := hown.open (by omega)
        by_cases h48 : q < 48
        · have h48' : (q : Int) < 48 := by omega
          have hll := sched_len m (64 * nb) q
          have hlt := sched_lt HMT.out (64 * nb) q
          have hcell : ∀ j, j < q + 16 → wr.cell? ⟨g7, j, none⟩ = some (.int .u32 ((sched m (64 * nb) q).getD j 0 : Nat)) ∧ (sched m (64 * nb) q).getD j 0 < 4294967296 := fun j hj => by
            have hjl : j < (sched m (64 * nb) q).length := by omega
            refine ⟨?_, ?_⟩
            · rw [hcl j hj, wordVals_at, List.getElem?_eq_getElem hjl]
              simp [List.getD, hjl]
            · have := hlt ((sched m (64 * nb) q)[j]) (List.getElem_mem hjl)
              simpa [List.getD, hjl] using this
          have HCELL := Lib.hid hcell
          obtain ⟨l, hl⟩ : ∃ l, l = sched m (64 * nb) q := ⟨_, rfl⟩
          rw [← hl] at hcell
          obtain ⟨d14, l14⟩ := hcell (q + 14) (by omega)
          obtain ⟨d9, l9⟩ := hcell (q + 9) (by omega)
          obtain ⟨d1, l1⟩ := hcell (q + 1) (by omega)
          obtain ⟨d0, l0⟩ := hcell q (by omega)
          obtain ⟨v14, e14⟩ : ∃ v, v = l.getD (q + 14) 0 := ⟨_, rfl⟩
          obtain ⟨v9, e9⟩ : ∃ v, v = l.getD (q + 9) 0 := ⟨_, rfl⟩
          obtain ⟨v1, e1⟩ : ∃ v, v = l.getD (q + 1) 0 := ⟨_, rfl⟩
          obtain ⟨v0, e0⟩ : ∃ v, v = l.getD q 0 := ⟨_, rfl⟩
          rw [← e14] at d14 l14
          rw [← e9] at d9 l9
          rw [← e1] at d1 l1
          rw [← e0] at d0 l0
          obtain ⟨x1, x2, x3, x4, y1, y2, y3, y4, z1, z2, z3, sf⟩ := sched_facts v14 v9 v1 v0 l14 l1
          obtain ⟨ex1, ex2, ey1, ey2, f1, f2, f3, f4, f5, f6, f7, fo⟩ := sf
          have R1 := Lib.hid (fun w => rotr_nat v14 17 17 w rfl l14 (by decide))
          have R2 := Lib.hid (fun w => rotr_nat v14 19 19 w rfl l14 (by decide))
          have R3 := Lib.hid (fun w => rotr_nat v1 7 7 w rfl l1 (by decide))
          have R4 := Lib.hid (fun w => rotr_nat v1 18 18 w rfl l1 (by decide))
          rw [← ex1] at R1
          rw [← ex2] at R2
          rw [← ey1] at R3
          rw [← ey2] at R4
          have HZ := Lib.hid (show sched m (64 * nb) (q + 1) = sched m (64 * nb) q ++ [z3] by
            show sched m (64 * nb) q ++ [ShaMath.next (sched m (64 * nb) q) q] = _
            rw [← hl]
            unfold ShaMath.next
            rw [← e14, ← e9, ← e1, ← e0, fo])
          have HO := Lib.hid hown
          have HB := Lib.hid hb
          have hs6 := hb.size
          clear hown hb hcell hlt hll hl e14 e9 e1 e0 ex1 ex2 ey1 ey2 fo hcl
          have i15 : IntKind.i64.wrap ((q : Int) + 16 - 15) = ((q + 1 : Nat) : Int) := by rw [IntKind.wrap_i64]; omega
          have i7 : IntKind.i64.wrap ((q : Int) + 16 - 7) = ((q + 9 : Nat) : Int) := by rw [IntKind.wrap_i64]; omega
          have i16 : IntKind.i64.wrap ((q : Int) + 16 - 16) = ((q : Nat) : Int) := by rw [IntKind.wrap_i64]; omega
          go_wp2_with fail
          go_quiet (first
            | (go_at_call_of 77 (Value.int IntKind.u64 17); exact Calls.quiet_of_same (R1.out _))
            | (go_at_call_of 77 (Value.int IntKind.u64 19); exact Calls.quiet_of_same (R2.out _)))
          go_wp2_with fail
          obtain ⟨wa, hwa⟩ : ∃ wa, wa = wr.drewN nq := ⟨_, rfl⟩
          have HOa := Lib.hid (show OwnsM wa w6.heap.size 125 _ _ _ by rw [hwa]; exact HO.out)
          have HBa := Lib.hid (show Below w6.heap.size w6 wa by rw [hwa]; exact ⟨HB.out.os, HB.out.tape, HB.out.output, HB.out.size, HB.out.block⟩)
          have d1a : wa.cell? ⟨g7, q + 1, none⟩ = some (.int .u32 (v1 : Int)) := by rw [hwa]; exact d1
          have d9a : wa.cell? ⟨g7, q + 9, none⟩ = some (.int .u32 (v9 : Int)) := by rw [hwa]; exact d9
          have d0a : wa.cell? ⟨g7, q, none⟩ = some (.int .u32 (v0 : Int)) := by rw [hwa]; exact d0
          rw [← hwa]
          clear hwa HO HB d1 d9 d0 d14 hs6
          go_quiet (first
            | (go_at_call_of 77 (Value.int IntKind.u64 7); exact Calls.quiet_of_same (R3.out _))
            | (go_at_call_of 77 (Value.int IntKind.u64 18); exact Calls.quiet_of_same (R4.out _)))
          go_wp2_with fail
          obtain ⟨wb, hwb⟩ : ∃ wb, wb = wa.drewN nq := ⟨_, rfl⟩
          have HOb := Lib.hid (show OwnsM (wb.drew.alloc (.cells #[.int .u32 (z3 : Int)] 125)) w6.heap.size 125 _ _ _ by rw [hwb]; exact HOa.out.alloc _)
          have hBb : Below w6.heap.size w6 wb := by rw [hwb]; exact ⟨HBa.out.os, HBa.out.tape, HBa.out.output, HBa.out.size, HBa.out.block⟩
          have HBb := Lib.hid ((hBb.drew).alloc hBb.size (.cells #[.int .u32 (z3 : Int)] 125))
          have hsb := hBb.size
          have d9b : wb.cell? ⟨g7, q + 9, none⟩ = some (.int .u32 (v9 : Int)) := by rw [hwb]; exact d9a
          have d0b : wb.cell? ⟨g7, q, none⟩ = some (.int .u32 (v0 : Int)) := by rw [hwb]; exact d0a
          rw [← hwb]
          clear hwb HOa HBa d1a d9a d0a hBb
          have k9 : (0 : Int) ≤ (q : Int) + 9 := by omega
          have k9b : (q : Int) + 9 < (q : Int) + 16 := by omega
          have k9t : ((q : Int) + 9).toNat = q + 9 := by omega
          have k0w : IntKind.i64.wrap (q : Int) = (q : Int) := by rw [IntKind.wrap_i64]; omega
          have k0b : (q : Int) < (q : Int) + 16 := by omega
          go_region_law (refine step_append_m rfl (.tmp 123) (.tmp 139) 137 rfl w6.heap.size 125 iw (.int .u32 0) 4 Tryz.underlying137 hiw hw0 hw1 hw2 rfl _ _ _ (by simp [Act.eval]) HOb.out ⟨_, 0, none⟩ 1 1 [.int .u32 (z3 : Int)] (by simp [Act.eval]) rfl (one_at _ _ _ _ rfl) (fun u hu => by simp at hu; subst hu; rfl) (by unfold maxLen; omega) (by omega) (by simp; omega) ?_; intro v9' w9 hown9 hgrow9)
          all_goals
            have hB9 : Below w6.heap.size w6 w9 := HBb.out.grown hgrow9 (by simp; omega) (fun q hq => (HOb.out.lt q hq).1)
            go_wp2_with fail
            go_roundg (48 - (q + 1))
            case measure => omega
            case rel => exact ⟨q + 1, by omega, by go_num, by rw [show q + 1 + 16 = q + 16 + 1 by omega, HZ.out, wordVals_append]; exact hown9, hB9⟩
        · obtain rfl : q = 48 := by omega
          have HO := Lib.hid hown
          have HB := Lib.hid hb
          have HH6 := Lib.hid (hh.out.grown hb)
          have HK7 := Lib.hid (HK6.out.grown hb)
          have HCL := Lib.hid hcl
          clear hown hb h48 hcl HM6 HK6
          obtain ⟨r, hr⟩ : ∃ r, r = blocks m nb := ⟨_, rfl⟩
          have hrok : r.Ok := by rw [hr]; exact blocks_ok m nb
          have HR := Lib.hid hr
          rw [← hr] at HH6
          have c0 := (HH6.out 0 r.a rfl).2
          have c1 := (HH6.out 1 r.b rfl).2
          have c2 := (HH6.out 2 r.c rfl).2
          have c3 := (HH6.out 3 r.d rfl).2
          have c4 := (HH6.out 4 r.e rfl).2
          have c5 := (HH6.out 5 r.f rfl).2
          have c6 := (HH6.out 6 r.g rfl).2
          have c7' := (HH6.out 7 r.h rfl).2
          have HROK := Lib.hid hrok
          clear hr hrok
          go_wp2_with fail
          go_quiet (fail)
          go_wp2_with fail
          obtain ⟨wq, hwq⟩ : ∃ wq, wq = wr.drewN nq := ⟨_, rfl⟩
          have HBq := Lib.hid (show Below w6.heap.size w6 wq by rw [hwq]; exact ⟨HB.out.os, HB.out.tape, HB.out.output, HB.out.size, HB.out.block⟩)
          have HKq := Lib.hid (show Words wq K ks by rw [hwq]; exact HK7.out)
          have HHq := Lib.hid (show Words wq H r.list by rw [hwq]; exact HH6.out)
          have hws : ∀ j, j < 64 → wq.cell? ⟨g7, j, none⟩ = some (.int .u32 ((sched m (64 * nb) 48).getD j 0 : Nat)) ∧ (sched m (64 * nb) 48).getD j 0 < 4294967296 := by
            rw [hwq]
            intro j hj
            have hjl : j < (sched m (64 * nb) 48).length := by rw [sched_len]; exact hj
            refine ⟨?_, ?_⟩
            · show wr.cell? ⟨g7, j, none⟩ = _
              have hc := HCL.out j hj
              rw [hc, wordVals_at, List.getElem?_eq_getElem hjl]
              simp [List.getD, hjl]
            · have := sched_lt HMT.out (64 * nb) 48 ((sched m (64 * nb) 48)[j]) (List.getElem_mem hjl)
              simpa [List.getD, hjl] using this
          obtain ⟨ws, hwsd⟩ : ∃ ws, ws = sched m (64 * nb) 48 := ⟨_, rfl⟩
          have HWD := Lib.hid hwsd
          rw [← hwsd] at hws
          have HWS := Lib.hid hws
          rw [← hwq]
          clear hwq hws hwsd HO HB HK7 HH6 c0 c1 c2 c3 c4 c5 c6 c7' HCL
          go_loopg [14, 15, 16, 17, 18, 19, 20, 21, 22] 64 (fun gh s14 s15 s16 s17 s18 s19 s20 s21 s22 wx => ∃ (t a b c d e f g h n : Nat), t + gh = 64 ∧ s22 = .int .i64 (t : Int) ∧ s14 = .int .u32 (a : Int) ∧ s15 = .int .u32 (b : Int) ∧ s16 = .int .u32 (c : Int) ∧ s17 = .int .u32 (d : Int) ∧ s18 = .int .u32 (e : Int) ∧ s19 = .int .u32 (f : Int) ∧ s20 = .int .u32 (g : Int) ∧ s21 = .int .u32 (h : Int) ∧ Hid (rounds r ws t = ⟨a, b, c, d, e, f, g, h⟩) ∧ wx = wq.drewN n)
          case atStart => exact ⟨0, r.a, r.b, r.c, r.d, r.e, r.f, r.g, r.h, 0, rfl, by go_num, rfl, rfl, rfl, rfl, rfl, rfl, rfl, rfl, Lib.hid rfl, rfl⟩
          case round =>
            obtain ⟨t, a, b, c, d, e, f, g, h, nn, ht, rfl, rfl, rfl, rfl, rfl, rfl, rfl, rfl, rfl, hR, hwx⟩ := hrel
            by_cases h64 : t < 64
            · have h64' : (t : Int) < 64 := by omega
              obtain ⟨wz, hwz⟩ : ∃ wz, wz = wr := ⟨_, rfl⟩
              subst hwz
              have HWX := Lib.hid hwx
              have hok := rounds_ok HROK.out ws t
              rw [hR.out] at hok
              obtain ⟨la, lb, lc, ld, le, lf, lg, lh⟩ := hok
              simp only at la lb lc ld le lf lg lh
              obtain ⟨kw, kl⟩ := HWS.out t h64
              obtain ⟨kl2, kk⟩ := HKq.out t _ (ks_at t h64)
              obtain ⟨wt, hwt⟩ : ∃ v, v = ws.getD t 0 := ⟨_, rfl⟩
              obtain ⟨kt, hkt⟩ : ∃ v, v = kAt t := ⟨_, rfl⟩
              rw [← hwt] at kw kl
              rw [← hkt] at kk kl2
              have kw' : wz.cell? ⟨g7, t, none⟩ = some (.int .u32 (wt : Int)) := by rw [hwx]; exact kw
              have kk' : wz.cell? ⟨K, t, none⟩ = some (.int .u32 (kt : Int)) := by rw [hwx]; exact kk
              obtain ⟨x1, x2, x3, x4, x5, a1, q1, ne, q2, q3, a2, a3, a4, y1, y2, y3, y4, y5, m1, m2, m3, m4, m5, a5, ee, aa, rf⟩ := round_facts a b c d e f g h kt wt la lb lc le lf lg
              obtain ⟨ex1, ex2, ex4, ey1, ey2, ey4, f1, f2, f3, f4, f5, f6, f7, f8, f9, f10, f11, f12, f13, g1', g2', g3', g4', g5', g6', g7', hq, ho⟩ := rf
              have HQ := Lib.hid hq
              have R1 := Lib.hid (fun w => rotr_nat e 6 6 w rfl le (by decide))
              have R2 := Lib.hid (fun w => rotr_nat e 11 11 w rfl le (by decide))
              have R3 := Lib.hid (fun w => rotr_nat e 25 25 w rfl le (by decide))
              have R4 := Lib.hid (fun w => rotr_nat a 2 2 w rfl la (by decide))
              have R5 := Lib.hid (fun w => rotr_nat a 13 13 w rfl la (by decide))
              have R6 := Lib.hid (fun w => rotr_nat a 22 22 w rfl la (by decide))
              rw [← ex1] at R1
              rw [← ex2] at R2
              rw [← ex4] at R3
              rw [← ey1] at R4
              rw [← ey2] at R5
              rw [← ey4] at R6
              have HRR := Lib.hid (show rounds r ws (t + 1) = ⟨aa, a, b, c, ee, e, f, g⟩ by
                show ShaMath.round (rounds r ws t) (kAt t) (ws.getD t 0) = _
                rw [hR.out, ← hkt, ← hwt]
                exact ho)
              clear hwx kw kk hwt hkt ex1 ex2 ex4 ey1 ey2 ey4 hq ho hR la lb lc ld le lf lg lh kl kl2
              go_wp2_with fail
              go_quiet (first
                | (go_at_call_of 77 (Value.int IntKind.u64 6); exact Calls.quiet_of_same (R1.out _))
                | (go_at_call_of 77 (Value.int IntKind.u64 11); exact Calls.quiet_of_same (R2.out _))
                | (go_at_call_of 77 (Value.int IntKind.u64 25); exact Calls.quiet_of_same (R3.out _)))
              go_wp2_with (first
                | (go_at_call_of 77 (Value.int IntKind.u64 2); refine (R4.out _).mono ?_; rintro e w ⟨rfl, rfl⟩)
                | (go_at_call_of 77 (Value.int IntKind.u64 13); refine (R5.out _).mono ?_; rintro e w ⟨rfl, rfl⟩)
                | (go_at_call_of 77 (Value.int IntKind.u64 22); refine (R6.out _).mono ?_; rintro e w ⟨rfl, rfl⟩))
              go_roundg (64 - (t + 1))
              case measure => omega
              case rel => exact ⟨t + 1, aa, a, b, c, ee, e, f, g, nn + nq, by omega, by go_num, by first | rfl | (congr 1; have hh := HQ.out; omega), rfl, rfl, rfl, by first | rfl | (congr 1; have hh := HQ.out; omega), rfl, rfl, rfl, HRR, by rw [HWX.out]; exact World.drewN_drewN _ _ _⟩
            · obtain rfl : t = 64 := by omega
              clear h64
              have HH8 := Lib.hid (show Words wr H r.list by rw [hwx]; exact HHq.out)
              have HB8 := Lib.hid (show Below w6.heap.size w6 wr by rw [hwx]; exact ⟨HBq.out.os, HBq.out.tape, HBq.out.output, HBq.out.size, HBq.out.block⟩)
              have c0 := (HH8.out 0 r.a rfl).2
              have c1 := (HH8.out 1 r.b rfl).2
              have c2 := (HH8.out 2 r.c rfl).2
              have c3 := (HH8.out 3 r.d rfl).2
              have c4 := (HH8.out 4 r.e rfl).2
              have c5 := (HH8.out 5 r.f rfl).2
              have c6 := (HH8.out 6 r.g rfl).2
              have c7' := (HH8.out 7 r.h rfl).2
              obtain ⟨p0, ep0⟩ : ∃ v, v = (r.a + a) % 4294967296 := ⟨_, rfl⟩
              obtain ⟨p1, ep1⟩ : ∃ v, v = (r.b + b) % 4294967296 := ⟨_, rfl⟩
              obtain ⟨p2, ep2⟩ : ∃ v, v = (r.c + c) % 4294967296 := ⟨_, rfl⟩
              obtain ⟨p3, ep3⟩ : ∃ v, v = (r.d + d) % 4294967296 := ⟨_, rfl⟩
              obtain ⟨p4, ep4⟩ : ∃ v, v = (r.e + e) % 4294967296 := ⟨_, rfl⟩
              obtain ⟨p5, ep5⟩ : ∃ v, v = (r.f + f) % 4294967296 := ⟨_, rfl⟩
              obtain ⟨p6, ep6⟩ : ∃ v, v = (r.g + g) % 4294967296 := ⟨_, rfl⟩
              obtain ⟨p7, ep7⟩ : ∃ v, v = (r.h + h) % 4294967296 := ⟨_, rfl⟩
              have f0 : IntKind.u32.wrap ((r.a : Int) + (a : Int)) = (p0 : Int) := by rw [IntKind.wrap_u32']; omega
              have f1 : IntKind.u32.wrap ((r.b : Int) + (b : Int)) = (p1 : Int) := by rw [IntKind.wrap_u32']; omega
              have f2 : IntKind.u32.wrap ((r.c : Int) + (c : Int)) = (p2 : Int) := by rw [IntKind.wrap_u32']; omega
              have f3 : IntKind.u32.wrap ((r.d : Int) + (d : Int)) = (p3 : Int) := by rw [IntKind.wrap_u32']; omega
              have f4 : IntKind.u32.wrap ((r.e : Int) + (e : Int)) = (p4 : Int) := by rw [IntKind.wrap_u32']; omega
              have f5 : IntKind.u32.wrap ((r.f : Int) + (f : Int)) = (p5 : Int) := by rw [IntKind.wrap_u32']; omega
              have f6 : IntKind.u32.wrap ((r.g : Int) + (g : Int)) = (p6 : Int) := by rw [IntKind.wrap_u32']; omega
              have f7 : IntKind.u32.wrap ((r.h : Int) + (h : Int)) = (p7 : Int) := by rw [IntKind.wrap_u32']; omega
              have HNX := Lib.hid (show blocks m (nb + 1) = ⟨p0, p1, p2, p3, p4, p5, p6, p7⟩ by
                show ShaMath.add (blocks m nb) (rounds (blocks m nb) (sched m (64 * nb) 48) 64) = _
                rw [← HR.out, ← HWD.out, hR.out, ep0, ep1, ep2, ep3, ep4, ep5, ep6, ep7]
                rfl)
              have HOKN := Lib.hid (show (⟨p0, p1, p2, p3, p4, p5, p6, p7⟩ : Regs).Ok by rw [← HNX.out]; exact blocks_ok m _)
              have hnb1 : (64 * nb : Int) + 64 = ((64 * (nb + 1) : Nat) : Int) := by omega
              clear hwx hR ep0 ep1 ep2 ep3 ep4 ep5 ep6 ep7
              go_wp2_with fail
              go_still_tail 40, (by kernel_rfl)
              have hs8 := HB8.out.size
              change wpList Tryz.prog _ _ _ _ wr.drew
              go_wp2
              exact HKQ.out _ _ _ _ _ _ _ _ _ _ _ _ _ _ _ _ _ _ _ _ _ _ _ _ _ _ _ _ _ _ _ _ _ _ _ _ _ _ _ _ _ _ _ _ _ _ _ _ _ _ _ _ _ _ _ _ _ _ _ _ _ _ _ _ _ _ _ _ _ _ _ _ _ _ _ _ _ _ _ _ _ _ _ _ _ _ _ _ _ _ _ _ _ _ _ _ _ _ _ _ _ _ _ _ _ _ _ _ _ _ _ _ _ _ _ _ _ _ _ _ _ _ _ _ _ _ _ _ _ _ _ _ _ _ _ _ _ _ _ _ _ _ _ _ _ _ _ _ _ _ _ _ _ _ _ _ _ _ _ _ _ _ _ _ _ _ _ _ _ _ _ _ _ _ _ _ _ _ _ _ _ _ _ _ _ _ _ _ _ _ _ _ _ _ _ _ _ _ _ _ _ _ _ _ _ _ _ _ _ _ _ _ _ _ _ _ _ _ _ _ _ _ _ _ _ _ _ _ _ _ _ _ _ _ _ _ _ _ _ _ _ _ _ _ (by rw [HNX.out]; exact words_new wr.drew (⟨p0, p1, p2, p3, p4, p5, p6, p7⟩ : Regs).list 125 (regs_lt HOKN.out)) ((HB8.out.drew).alloc HB8.out.size _)
end Go.Proofs.YtajhegjemhegiaaGreatDoor
