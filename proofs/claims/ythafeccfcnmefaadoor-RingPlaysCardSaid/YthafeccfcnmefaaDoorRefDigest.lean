/-
  The contract of the document's own Digest of chapter 3: of any text it is the standard's digest, old memory is as it was. The condition: at most 10,000 bytes.
-/
import Derived.Test.YthafeccfcnmefaaDoorRefBlock
namespace Go.Proofs.YthafeccfcnmefaaDoor
open Go.RowKit ShaMath TextNat

set_option maxRecDepth 100000 in
set_option maxHeartbeats 16000000 in
theorem refDigest (s : ByteArray) (w : World) (hs : s.size ≤ 10000) :
    Calls Tryd.prog 25 #[.string s] w fun e w' => e = .returned (.string (txt (digest (nats s)))) ∧ Below w.heap.size w w' := by
  obtain ⟨ib, hib, hb0, hb1, hb2⟩ := info_parts infoB
  obtain ⟨iw, hiw, hw0, hw1, hw2⟩ := info_parts infoW
  have kb := fun (w : World) (s : ByteArray) => run_bytes_of_string (P := Tryd.prog) w 9 51 5 s Tryd.underlying9 Tryd.underlying51 Tryd.underlying5
  have H0 := Lib.hid ((OwnsM.ofBytes w w.heap.size 5 s (Nat.le_refl _) (by unfold maxLen; omega)).alloc (.cells #[.int .u8 128] 5))
  rw [byteVals_nats] at H0
  have HB := Lib.hid ((((Below.refl w.heap.size w).drew).alloc (Nat.le_refl _) (.cells (bytesRow s (grownCap w s.size 0 5)) 5 ((bytesRow s (grownCap w s.size 0 5)).size, (bytesRow s (grownCap w s.size 0 5)).size + 1))).alloc (by simp) (.cells #[.int .u8 128] 5))
  go_enter Tryd.func25, Tryd.ntmps25
  go_wp2_with ((at_builtin; refine wpList_append_m rfl _ _ 51 rfl w.heap.size 5 ib (.int .u8 0) 1 Tryd.underlying51 hib hb0 hb1 hb2 rfl _ _ _ rfl H0.out ⟨_, 0, none⟩ 1 1 [.int .u8 128] rfl rfl (one_at _ _ _ _ (by simp)) (fun u hu => by simp at hu; subst hu; rfl) (by unfold maxLen; omega) (by omega) (by simp; omega) ?_; intro v1 w1 hown1 hgrow1))
  have hB1 : Below w.heap.size w w1 := HB.out.grown hgrow1 (by simp; omega) (fun q hq => (H0.out.lt q hq).1)
  rw [show byteVals (nats s) ++ [Value.int .u8 128] = byteVals (nats s ++ [128] ++ List.replicate 0 0) by simp [byteVals]] at hown1
  have H1 := Lib.hid hown1
  have HB1 := Lib.hid hB1
  obtain ⟨n, hn⟩ : ∃ n, n = s.size := ⟨_, rfl⟩
  have HN := Lib.hid hn
  rw [← hn] at H1 hs ⊢
  clear hgrow1 hown1 hB1 H0 HB hn kb
  go_loopg [3] (zeros n) (fun g s3 wx => ∃ z, z + g = zeros n ∧ OwnsM wx w.heap.size 5 s3 (n + 1 + z) (byteVals (nats s ++ [128] ++ List.replicate z 0)) ∧ Below w.heap.size w wx)
  case atStart => exact ⟨0, by omega, H1.out, HB1.out⟩
  case round =>
    obtain ⟨z, hz, hown, hb⟩ := hrel
    clear H1 HB1
    have hzn : zeros n = (119 - n % 64) % 64 := rfl
    obtain ⟨g1, c1, rfl, hg1, hgl1, _, _, _, _⟩ := hown.open (by omega)
    by_cases hlt : z < zeros n
    · have t1 : (((n : Int) + 1 + (z : Int)) % 64 != 56) = true := by simp; omega
      have HO := Lib.hid (hown.alloc (.cells #[.int .u8 0] 5))
      have hs2 := hb.size
      have hzl : z ≤ 64 := by omega
      have HB := Lib.hid (hb.alloc hb.size (.cells #[.int .u8 0] 5))
      clear hown hzn
      go_wp2_with ((at_builtin; refine wpList_append_m rfl _ _ 51 rfl w.heap.size 5 ib (.int .u8 0) 1 Tryd.underlying51 hib hb0 hb1 hb2 rfl _ _ _ rfl HO.out ⟨_, 0, none⟩ 1 1 [.int .u8 0] rfl rfl (one_at _ _ _ _ (by simp)) (fun u hu => by simp at hu; subst hu; rfl) (by unfold maxLen; omega) (by omega) (by simp; omega) ?_; intro v2 w2 hown2 hgrow2))
      have hB2 : Below w.heap.size w w2 := HB.out.grown hgrow2 (by simp; omega) (fun q hq => (HO.out.lt q hq).1)
      go_roundg (zeros n - (z + 1))
      case measure => omega
      case rel => exact ⟨z + 1, by omega, by rw [show n + 1 + (z + 1) = n + 1 + z + 1 by omega, List.replicate_succ', ← List.append_assoc, byteVals_append]; exact hown2, hB2⟩
    · obtain rfl : z = zeros n := by omega
      have t1 : (((n : Int) + 1 + (zeros n : Int)) % 64 != 56) = false := by simp; omega
      have HM := Lib.hid hown
      have HB := Lib.hid hb
      have hzl : zeros n ≤ 64 := by omega
      have u1 : IntKind.u64.wrap (s.size : Int) = (n : Int) := by rw [IntKind.wrap_u64, ← HN.out]; omega
      have u2 : IntKind.u64.wrap (8 * (n : Int)) = ((8 * n : Nat) : Int) := by rw [IntKind.wrap_u64]; omega
      clear hown hb hzn
      go_wp2_with fail
      refine (number_eight' (8 * n) wr (by omega)).mono ?_
      rintro e w3 ⟨rfl, rfl⟩
      have HM2 := Lib.hid (HM.out.alloc (.cells (byteVals (eight (8 * n))).toArray 5))
      have HB2 := Lib.hid (HB.out.alloc HB.out.size (.cells (byteVals (eight (8 * n))).toArray 5))
      have hsz2 := HB.out.size
      clear HM HB
      go_wp2_with ((at_builtin; refine wpList_append_m rfl _ _ 51 rfl w.heap.size 5 ib (.int .u8 0) 1 Tryd.underlying51 hib hb0 hb1 hb2 rfl _ _ _ rfl HM2.out ⟨_, 0, none⟩ 8 8 (byteVals (eight (8 * n))) rfl rfl (cells_new _ _ _ _ rfl) (byteVals_one _) (by unfold maxLen; omega) (by omega) (by simp; omega) ?_; intro v4 w4 hown4 hgrow4))
      have hB4 : Below w.heap.size w w4 := HB2.out.grown hgrow4 (by simp; omega) (fun q hq => (HM2.out.lt q hq).1)
      rw [← byteVals_append] at hown4
      have hpad : nats s ++ [128] ++ List.replicate (zeros n) 0 ++ eight (8 * n) = pad (nats s) := by
        unfold pad
        rw [nats_len, ← HN.out]
      rw [hpad] at hown4
      obtain ⟨m, hm⟩ : ∃ m, m = pad (nats s) := ⟨_, rfl⟩
      have hml : m.length = n + 1 + zeros n + 8 := by rw [hm, ← hpad]; simp [eight_len, nats_len, ← HN.out]; omega
      have hm64 : m.length % 64 = 0 := by rw [hm]; exact pad_len _
      have hmlt : ∀ b ∈ m, b < 256 := by rw [hm]; exact pad_lt (nats_lt s)
      rw [← hm, ← hml] at hown4
      obtain ⟨gm, cm, rfl, hgm, hgml, _, _, hmc, _⟩ := hown4.open (by omega)
      have hmb : Bytes w4 (some ⟨gm, 0, none⟩) m := fun i z hz => ⟨hmlt z (List.mem_of_getElem? hz), gm, 0, rfl, by
        have hi : i < m.length := (List.getElem?_eq_some_iff.1 hz).1
        rw [Nat.zero_add, hmc i hi, byteVals_at, hz]
        rfl⟩
      go_wp2_with fail
      refine (constants_any _).mono ?_
      rintro e w5 ⟨rfl, rfl⟩
      have hBh : Below w4.heap.size w4 (w4.alloc (.cells (wordVals r0.list).toArray 72)) := (Below.refl _ _).alloc (Nat.le_refl _) _
      have hBk : Below w4.heap.size w4 ((w4.alloc (.cells (wordVals r0.list).toArray 72)).alloc (.cells kCells 72)) := hBh.alloc (by simp) _
      have hh := (words_new w4 r0.list 72 (regs_lt r0_ok)).grown ((Below.refl _ (w4.alloc (.cells (wordVals r0.list).toArray 72))).alloc (Nat.le_refl _) (.cells kCells 72))
      have hk := words_new (w4.alloc (.cells (wordVals r0.list).toArray 72)) ks 72 ks_lt
      rw [← kCells_vals] at hk
      have hm5 := hmb.grown hBk
      have hB5 := hB4.trans (hBk.mono hB4.size)
      obtain ⟨W, hW⟩ : ∃ W, W = (w4.alloc (.cells (wordVals r0.list).toArray 72)).alloc (.cells kCells 72) := ⟨_, rfl⟩
      obtain ⟨K, hK⟩ : ∃ K, K = (w4.alloc (.cells (wordVals r0.list).toArray 72)).heap.size := ⟨_, rfl⟩
      obtain ⟨Hb, hHb⟩ : ∃ Hb, Hb = w4.heap.size := ⟨_, rfl⟩
      rw [← hW] at hh hk hm5 hB5
      rw [← hK] at hk
      rw [← hHb] at hh
      have hws : (w4.alloc (.cells #[.int .u32 1779033703, .int .u32 3144134277, .int .u32 1013904242, .int .u32 2773480762, .int .u32 1359893119, .int .u32 2600822924, .int .u32 528734635, .int .u32 1541459225] 72)) = w4.alloc (.cells (wordVals r0.list).toArray 72) := rfl
      rw [hws, ← hW, ← hK, ← hHb]
      have HH := Lib.hid hh
      have HK := Lib.hid hk
      have HM := Lib.hid hm5
      have HB5 := Lib.hid hB5
      have HMm := Lib.hid hm
      have HML := Lib.hid hm64
      have hmb2 : m.length ≤ 20000 := by omega
      have HMT := Lib.hid hmlt
      clear hh hk hm5 hB5 hm hm64 hmlt hBh hBk hW hK hHb hws hmb hmc hgml hgm hpad hown4 hgrow4 hB4 HM2 HB2 hml
      obtain ⟨NB, hNB⟩ : ∃ NB, m.length = 64 * NB := ⟨m.length / 64, by have := HML.out; omega⟩
      have HNB := Lib.hid hNB
      go_wp2_with fail
      go_loopg [4, 6] NB (fun g s4 s6 wx => ∃ nb H : Nat, nb + g = NB ∧ s6 = .int .i64 (64 * nb : Nat) ∧ s4 = .slice (some ⟨H, 0, none⟩) 8 8 ∧ Hid (Words wx H (blocks m nb).list) ∧ Below W.heap.size W wx)
      case atStart => exact ⟨0, Hb, by omega, by go_num, rfl, HH, Below.refl _ _⟩
      case round =>
        obtain ⟨nb, H, hnb, rfl, rfl, hh, hb⟩ := hrel
        clear HH
        have hL := HNB.out
        by_cases hlt : nb < NB
        · have HB6 := Lib.hid hb
          refine block_round m gm cm K H nb NB wr hlt hL hmb2 HMT.out (HM.out.grown hb) (HK.out.grown hb) hh.out _ _ _ _ _ _ _ _ _ _ _ _ _ _ _ _ _ _ _ _ _ _ _ _ _ _ _ _ _ _ _ _ _ _ _ _ _ _ _ _ _ _ _ _ _ _ _ _ _ _ _ _ _ _ _ _ _ _ _ _ _ _ _ _ _ _ _ _ _ _ _ _ _ _ _ _ _ _ _ _ _ _ _ _ _ _ _ _ _ _ _ _ _ _ _ _ _ _ _ _ _ _ _ _ _ _ _ _ _ _ _ _ _ _ _ _ _ _ _ _ _ _ _ _ _ _ _ _ _ _ _ _ _ _ _ _ _ _ _ _ _ _ _ _ _ _ _ _ _ _ _ _ _ _ _ _ _ _ _ _ _ _ _ _ _ _ _ _ _ _ _ _ _ _ _ _ _ _ _ _ _ _ _ _ _ _ _ _ _ _ _ _ _ _ _ _ _ _ _ _ _ _ _ _ _ _ _ _ _ _ _ _ _ _ _ _ _ _ _ _ _ _ _ _ _ _ _ _ _ _ _ _ _ _ _ _ _ _ _ _ _ _ _ _ _ _ _ _ _ _ _ _ _ _ _ _ _ _ _ _ _ _ _ _ _ _ _ _ _ _ _ _ _ _ _ _ _ _ _ _ _ _ _ _ _ ?_
          intro v7 v8 v9 v10 v11 v12 v13 v14 v15 v16 v17 v18 v19 v20 v21 v22 v23 v24 v47 v48 v49 v50 v51 v52 v53 v54 v55 v56 v57 v58 v59 v60 v61 v62 v63 v64 v65 v66 v67 v68 v69 v70 v71 v72 v73 v74 v75 v76 v77 v78 v79 v80 v81 v82 v83 v84 v85 v86 v87 v88 v89 v90 v91 v92 v93 v94 v95 v96 v97 v98 v99 v100 v101 v102 v103 v104 v105 v106 v107 v108 v109 v110 v111 v112 v113 v114 v115 v116 v117 v118 v119 v120 v121 v122 v123 v124 v125 v126 v127 v128 v129 v130 v131 v132 v133 v134 v135 v136 v137 v138 v139 v140 v141 v142 v143 v144 v145 v146 v147 v148 v149 v150 v151 v152 v153 v154 v155 v156 v157 v158 v159 v160 v161 v162 v163 v164 v165 v166 v167 v168 v169 v170 v171 v172 v173 v174 v175 v176 v177 v178 v179 v180 v181 v182 v183 v184 v185 v186 v187 v188 v189 v190 v191 v192 v193 v194 v195 v196 v197 v198 v199 v200 v201 v202 v203 v204 v205 v206 v207 v208 v209 v210 v211 v212 v213 v214 v215 v216 v217 v218 v219 v220 v221 v222 v223 v224 v225 v226 v227 v228 v229 v230 v231 v232 v233 v234 v235 v236 v237 v238 v239 v240 v241 v242 v243 v244 v245 v246 v247 v248 v249 v250 v251 v252 v253 v254 v255 v256 v257 v258 v259 v260 v261 v262 v263 v264 v265 v266 v267 v268 v269 v270 H' w' hw' hb'
          dsimp only
          go_wp2_with fail
          go_roundg (NB - (nb + 1))
          case measure => omega
          case rel => exact ⟨nb + 1, H', by omega, rfl, rfl, Lib.hid hw', HB6.out.trans (hb'.mono HB6.out.size)⟩
        · obtain rfl : nb = NB := by omega
          obtain ⟨w8, hw8⟩ : ∃ w8, w8 = wr := ⟨_, rfl⟩
          subst hw8
          obtain ⟨r, hr⟩ : ∃ r, r = blocks m nb := ⟨_, rfl⟩
          rw [← hr] at hh
          have HD := Lib.hid (show r.list.flatMap four = digest (nats s) by
            unfold digest
            rw [← HMm.out, HNB.out, show 64 * nb / 64 = nb by omega, hr])
          have HB6 := Lib.hid hb
          have HO := Lib.hid (OwnsM.of (World.ownsRow_made (base := w8.heap.size) (e := 5) (size := 1) w8 #[] 0 (Nat.le_refl _) (by simp) (by simp)))
          have HA := Lib.hid ((Below.refl w8.heap.size w8).alloc (Nat.le_refl _) (.cells #[] 5))
          have hl8 : r.list.length = 8 := rfl
          clear hlt hr hb
          go_wp2_with fail
          go_loopg [25, 26] 8 (fun gh s25 s26 wx => ∃ t : Nat, t + gh = 8 ∧ s26 = .int .i64 (t : Int) ∧ OwnsM wx w8.heap.size 5 s25 (4 * t) (byteVals ((r.list.take t).flatMap four)) ∧ Below w8.heap.size w8 wx)
          case atStart => exact ⟨0, rfl, by go_num, HO.out, HA.out⟩
          case round =>
            clear HO HA
            obtain ⟨t, ht, rfl, hown, hb⟩ := hrel
            obtain ⟨p25, c25, rfl⟩ := hown.shape
            by_cases h8 : t < 8
            · have h8' : (t : Int) < 8 := by omega
              obtain ⟨z, hz⟩ : ∃ z, r.list[t]? = some z := ⟨_, List.getElem?_eq_getElem (by omega)⟩
              obtain ⟨zl, zc⟩ := (hh.out.grown hb) t z hz
              have u1 : IntKind.u64.wrap (z : Int) = (z : Int) := by rw [IntKind.wrap_u64]; omega
              have HT := Lib.hid (show (r.list.take (t + 1)).flatMap four = (r.list.take t).flatMap four ++ four z by rw [List.take_add_one, hz, List.flatMap_append]; simp)
              have HN4 := Lib.hid (fun w => number_four' z w (by omega))
              have HO := Lib.hid (hown.alloc (.cells (byteVals (four z)).toArray 5))
              have HB := Lib.hid (hb.alloc hb.size (.cells (byteVals (four z)).toArray 5))
              have hs9 := hb.size
              clear hown hb hz
              go_wp2_with (first
                | (go_at_call 22; refine (HN4.out _).mono ?_; rintro e w ⟨rfl, rfl⟩)
                | (at_builtin; refine wpList_append_m rfl _ _ 51 rfl w8.heap.size 5 ib (.int .u8 0) 1 Tryd.underlying51 hib hb0 hb1 hb2 rfl _ _ _ rfl HO.out ⟨_, 0, none⟩ 4 4 (byteVals (four z)) rfl rfl (cells_new _ _ _ _ rfl) (byteVals_one _) (by unfold maxLen; omega) (by omega) (by simp; omega) ?_; intro v9 w9 hown9 hgrow9))
              have hB9 : Below w8.heap.size w8 w9 := HB.out.grown hgrow9 (by simp; omega) (fun q hq => (HO.out.lt q hq).1)
              go_roundg (8 - (t + 1))
              case measure => omega
              case rel => exact ⟨t + 1, by omega, by go_num, by rw [show 4 * (t + 1) = 4 * t + 4 by omega, HT.out, byteVals_append]; exact hown9, hB9⟩
            · obtain rfl : t = 8 := by omega
              have ht8 : r.list.take 8 = r.list := List.take_of_length_le (by omega)
              rw [ht8, HD.out] at hown
              have hown' : OwnsM wr w8.heap.size 5 (.slice p25 32 c25) 32 (byteVals (digest (nats s))) := hown
              obtain ⟨gg, cc, he, _, _, _, _, hcells, _⟩ := hown'.open (by decide)
              simp only [Value.slice.injEq] at he
              obtain ⟨rfl, _, rfl⟩ := he
              have hcv := text_any wr gg c25 (digest (nats s)) (digest_lt _) (fun j hj => hcells j (by rw [digest_len] at hj; exact hj))
              rw [digest_len] at hcv
              have HB := Lib.hid hb
              clear hown hown' hb h8
              go_wp2
              go_ret
              exact ⟨rfl, HB5.out.trans (HB6.out.mono HB5.out.size |>.trans (HB.out.mono (Nat.le_trans HB5.out.size HB6.out.size)))⟩
end Go.Proofs.YthafeccfcnmefaaDoor
