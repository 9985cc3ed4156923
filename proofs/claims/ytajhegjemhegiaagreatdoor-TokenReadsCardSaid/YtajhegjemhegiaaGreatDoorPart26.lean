/-
  Texts of one claim, merged.
  RefDigest: The contract of the document's own Digest of chapter 3: of any text it is the standard's digest, old memory is as it was. The condition: at most 10,000 bytes.
  RefTag: The contracts of the document's own Tag and Derive of chapter 3: the standard's tag, the key of a number; old memory is as it was. The condition: texts of at most 5,000 bytes.
  TokenShort: How long tokens of right claims are. No program is run here.
-/
import Derived.Test.YtajhegjemhegiaaGreatDoorRefBlock
import Derived.Test.YtajhegjemhegiaaGreatDoorPart12
namespace Go.Proofs.YtajhegjemhegiaaGreatDoor
open Go.RowKit ShaMath TextNat

set_option maxRecDepth 100000 in
set_option maxHeartbeats 16000000 in
theorem refDigest (s : ByteArray) (w : World) (hs : s.size ≤ 10000) :
    Calls Tryz.prog 50 #[.string s] w fun e w' => e = .returned (.string (txt (digest (nats s)))) ∧ Below w.heap.size w w' := by
  obtain ⟨ib, hib, hb0, hb1, hb2⟩ := info_parts infoB
  obtain ⟨iw, hiw, hw0, hw1, hw2⟩ := info_parts infoW
  have kb := fun (w : World) (s : ByteArray) => run_bytes_of_string (P := Tryz.prog) w 9 99 5 s Tryz.underlying9 Tryz.underlying99 Tryz.underlying5
  have H0 := Lib.hid ((OwnsM.ofBytes w w.heap.size 5 s (Nat.le_refl _) (by unfold maxLen; omega)).alloc (.cells #[.int .u8 128] 5))
  rw [byteVals_nats] at H0
  have HB := Lib.hid ((((Below.refl w.heap.size w).drew).alloc (Nat.le_refl _) (.cells (bytesRow s (grownCap w s.size 0 5)) 5 ((bytesRow s (grownCap w s.size 0 5)).size, (bytesRow s (grownCap w s.size 0 5)).size + 1))).alloc (by simp) (.cells #[.int .u8 128] 5))
  go_enter Tryz.func50, Tryz.ntmps50
  go_wp2_with ((at_builtin; refine wpList_append_m rfl _ _ 99 rfl w.heap.size 5 ib (.int .u8 0) 1 Tryz.underlying99 hib hb0 hb1 hb2 rfl _ _ _ rfl H0.out ⟨_, 0, none⟩ 1 1 [.int .u8 128] rfl rfl (one_at _ _ _ _ (by simp)) (fun u hu => by simp at hu; subst hu; rfl) (by unfold maxLen; omega) (by omega) (by simp; omega) ?_; intro v1 w1 hown1 hgrow1))
  have hB1 : Below w.heap.size w w1 := HB.out.grown hgrow1 (by simp; omega) (fun q hq => (H0.out.lt q hq).1)
  rw [show byteVals (nats s) ++ [Value.int .u8 128] = byteVals (nats s ++ [128] ++ List.replicate 0 0) by simp [byteVals]] at hown1
  have H1 := Lib.hid hown1
  have HB1 := Lib.hid hB1
  obtain ⟨n, hn⟩ : ∃ n, n = s.size := ⟨_, rfl⟩
  have HN := Lib.hid hn
  rw [← hn] at H1 hs ⊢
  clear hgrow1 hown1 hB1 H0 HB hn kb
  go_loopg [3] (zeros n) (fun g s3 wx => ∃ z, z + g = zeros n ∧ OwnsM wx w.heap.size 5 s3 (n + 1 + z) (byteVals (nats s ++ [128] ++ List.replicate z 0)) ∧ Below w.heap.size w wx)
  case atStart => exact ⟨0, by omega, H1.out, HB1.out⟩
  case round =>
    obtain ⟨z, hz, hown, hb⟩ := hrel
    clear H1 HB1
    have hzn : zeros n = (119 - n % 64) % 64 := rfl
    obtain ⟨g1, c1, rfl, hg1, hgl1, _, _, _, _⟩ := hown.open (by omega)
    by_cases hlt : z < zeros n
    · have t1 : (((n : Int) + 1 + (z : Int)) % 64 != 56) = true := by simp; omega
      have HO := Lib.hid (hown.alloc (.cells #[.int .u8 0] 5))
      have hs2 := hb.size
      have hzl : z ≤ 64 := by omega
      have HB := Lib.hid (hb.alloc hb.size (.cells #[.int .u8 0] 5))
      clear hown hzn
      go_wp2_with ((at_builtin; refine wpList_append_m rfl _ _ 99 rfl w.heap.size 5 ib (.int .u8 0) 1 Tryz.underlying99 hib hb0 hb1 hb2 rfl _ _ _ rfl HO.out ⟨_, 0, none⟩ 1 1 [.int .u8 0] rfl rfl (one_at _ _ _ _ (by simp)) (fun u hu => by simp at hu; subst hu; rfl) (by unfold maxLen; omega) (by omega) (by simp; omega) ?_; intro v2 w2 hown2 hgrow2))
      have hB2 : Below w.heap.size w w2 := HB.out.grown hgrow2 (by simp; omega) (fun q hq => (HO.out.lt q hq).1)
      go_roundg (zeros n - (z + 1))
      case measure => omega
      case rel => exact ⟨z + 1, by omega, by rw [show n + 1 + (z + 1) = n + 1 + z + 1 by omega, List.replicate_succ', ← List.append_assoc, byteVals_append]; exact hown2, hB2⟩
    · obtain rfl : z = zeros n := by omega
      have t1 : (((n : Int) + 1 + (zeros n : Int)) % 64 != 56) = false := by simp; omega
      have HM := Lib.hid hown
      have HB := Lib.hid hb
      have hzl : zeros n ≤ 64 := by omega
      have u1 : IntKind.u64.wrap (s.size : Int) = (n : Int) := by rw [IntKind.wrap_u64, ← HN.out]; omega
      have u2 : IntKind.u64.wrap (8 * (n : Int)) = ((8 * n : Nat) : Int) := by rw [IntKind.wrap_u64]; omega
      clear hown hb hzn
      go_wp2_with fail
      refine (number_eight' (8 * n) wr (by omega)).mono ?_
      rintro e w3 ⟨rfl, rfl⟩
      have HM2 := Lib.hid (HM.out.alloc (.cells (byteVals (eight (8 * n))).toArray 5))
      have HB2 := Lib.hid (HB.out.alloc HB.out.size (.cells (byteVals (eight (8 * n))).toArray 5))
      have hsz2 := HB.out.size
      clear HM HB
      go_wp2_with ((at_builtin; refine wpList_append_m rfl _ _ 99 rfl w.heap.size 5 ib (.int .u8 0) 1 Tryz.underlying99 hib hb0 hb1 hb2 rfl _ _ _ rfl HM2.out ⟨_, 0, none⟩ 8 8 (byteVals (eight (8 * n))) rfl rfl (cells_new _ _ _ _ rfl) (byteVals_one _) (by unfold maxLen; omega) (by omega) (by simp; omega) ?_; intro v4 w4 hown4 hgrow4))
      have hB4 : Below w.heap.size w w4 := HB2.out.grown hgrow4 (by simp; omega) (fun q hq => (HM2.out.lt q hq).1)
      rw [← byteVals_append] at hown4
      have hpad : nats s ++ [128] ++ List.replicate (zeros n) 0 ++ eight (8 * n) = pad (nats s) := by
        unfold pad
        rw [nats_len, ← HN.out]
      rw [hpad] at hown4
      obtain ⟨m, hm⟩ : ∃ m, m = pad (nats s) := ⟨_, rfl⟩
      have hml : m.length = n + 1 + zeros n + 8 := by rw [hm, ← hpad]; simp [eight_len, nats_len, ← HN.out]; omega
      have hm64 : m.length % 64 = 0 := by rw [hm]; exact pad_len _
      have hmlt : ∀ b ∈ m, b < 256 := by rw [hm]; exact pad_lt (nats_lt s)
      rw [← hm, ← hml] at hown4
      obtain ⟨gm, cm, rfl, hgm, hgml, _, _, hmc, _⟩ := hown4.open (by omega)
      have hmb : Bytes w4 (some ⟨gm, 0, none⟩) m := fun i z hz => ⟨hmlt z (List.mem_of_getElem? hz), gm, 0, rfl, by
        have hi : i < m.length := (List.getElem?_eq_some_iff.1 hz).1
        rw [Nat.zero_add, hmc i hi, byteVals_at, hz]
        rfl⟩
      go_wp2_with fail
      refine (constants_any _).mono ?_
      rintro e w5 ⟨rfl, rfl⟩
      have hBh : Below w4.heap.size w4 (w4.alloc (.cells (wordVals r0.list).toArray 125)) := (Below.refl _ _).alloc (Nat.le_refl _) _
      have hBk : Below w4.heap.size w4 ((w4.alloc (.cells (wordVals r0.list).toArray 125)).alloc (.cells kCells 125)) := hBh.alloc (by simp) _
      have hh := (words_new w4 r0.list 125 (regs_lt r0_ok)).grown ((Below.refl _ (w4.alloc (.cells (wordVals r0.list).toArray 125))).alloc (Nat.le_refl _) (.cells kCells 125))
      have hk := words_new (w4.alloc (.cells (wordVals r0.list).toArray 125)) ks 125 ks_lt
      rw [← kCells_vals] at hk
      have hm5 := hmb.grown hBk
      have hB5 := hB4.trans (hBk.mono hB4.size)
      obtain ⟨W, hW⟩ : ∃ W, W = (w4.alloc (.cells (wordVals r0.list).toArray 125)).alloc (.cells kCells 125) := ⟨_, rfl⟩
      obtain ⟨K, hK⟩ : ∃ K, K = (w4.alloc (.cells (wordVals r0.list).toArray 125)).heap.size := ⟨_, rfl⟩
      obtain ⟨Hb, hHb⟩ : ∃ Hb, Hb = w4.heap.size := ⟨_, rfl⟩
      rw [← hW] at hh hk hm5 hB5
      rw [← hK] at hk
      rw [← hHb] at hh
      have hws : (w4.alloc (.cells #[.int .u32 1779033703, .int .u32 3144134277, .int .u32 1013904242, .int .u32 2773480762, .int .u32 1359893119, .int .u32 2600822924, .int .u32 528734635, .int .u32 1541459225] 125)) = w4.alloc (.cells (wordVals r0.list).toArray 125) := rfl
      rw [hws, ← hW, ← hK, ← hHb]
      have HH := Lib.hid hh
      have HK := Lib.hid hk
      have HM := Lib.hid hm5
      have HB5 := Lib.hid hB5
      have HMm := Lib.hid hm
      have HML := Lib.hid hm64
      have hmb2 : m.length ≤ 20000 := by omega
      have HMT := Lib.hid hmlt
      clear hh hk hm5 hB5 hm hm64 hmlt hBh hBk hW hK hHb hws hmb hmc hgml hgm hpad hown4 hgrow4 hB4 HM2 HB2 hml
      obtain ⟨NB, hNB⟩ : ∃ NB, m.length = 64 * NB := ⟨m.length / 64, by have := HML.out; omega⟩
      have HNB := Lib.hid hNB
      go_wp2_with fail
      go_loopg [4, 6] NB (fun g s4 s6 wx => ∃ nb H : Nat, nb + g = NB ∧ s6 = .int .i64 (64 * nb : Nat) ∧ s4 = .slice (some ⟨H, 0, none⟩) 8 8 ∧ Hid (Words wx H (blocks m nb).list) ∧ Below W.heap.size W wx)
      case atStart => exact ⟨0, Hb, by omega, by go_num, rfl, HH, Below.refl _ _⟩
      case round =>
        obtain ⟨nb, H, hnb, rfl, rfl, hh, hb⟩ := hrel
        clear HH
        have hL := HNB.out
        by_cases hlt : nb < NB
        · have HB6 := Lib.hid hb
          refine block_round m gm cm K H nb NB wr hlt hL hmb2 HMT.out (HM.out.grown hb) (HK.out.grown hb) hh.out _ _ _ _ _ _ _ _ _ _ _ _ _ _ _ _ _ _ _ _ _ _ _ _ _ _ _ _ _ _ _ _ _ _ _ _ _ _ _ _ _ _ _ _ _ _ _ _ _ _ _ _ _ _ _ _ _ _ _ _ _ _ _ _ _ _ _ _ _ _ _ _ _ _ _ _ _ _ _ _ _ _ _ _ _ _ _ _ _ _ _ _ _ _ _ _ _ _ _ _ _ _ _ _ _ _ _ _ _ _ _ _ _ _ _ _ _ _ _ _ _ _ _ _ _ _ _ _ _ _ _ _ _ _ _ _ _ _ _ _ _ _ _ _ _ _ _ _ _ _ _ _ _ _ _ _ _ _ _ _ _ _ _ _ _ _ _ _ _ _ _ _ _ _ _ _ _ _ _ _ _ _ _ _ _ _ _ _ _ _ _ _ _ _ _ _ _ _ _ _ _ _ _ _ _ _ _ _ _ _ _ _ _ _ _ _ _ _ _ _ _ _ _ _ _ _ _ _ _ _ _ _ _ _ _ _ _ _ _ _ _ _ _ _ _ _ _ _ _ _ _ _ _ _ _ _ _ _ _ _ _ _ _ _ _ _ _ _ _ _ _ _ _ _ _ _ _ _ _ _ _ _ _ _ _ ?_
          intro v7 v8 v9 v10 v11 v12 v13 v14 v15 v16 v17 v18 v19 v20 v21 v22 v23 v24 v47 v48 v49 v50 v51 v52 v53 v54 v55 v56 v57 v58 v59 v60 v61 v62 v63 v64 v65 v66 v67 v68 v69 v70 v71 v72 v73 v74 v75 v76 v77 v78 v79 v80 v81 v82 v83 v84 v85 v86 v87 v88 v89 v90 v91 v92 v93 v94 v95 v96 v97 v98 v99 v100 v101 v102 v103 v104 v105 v106 v107 v108 v109 v110 v111 v112 v113 v114 v115 v116 v117 v118 v119 v120 v121 v122 v123 v124 v125 v126 v127 v128 v129 v130 v131 v132 v133 v134 v135 v136 v137 v138 v139 v140 v141 v142 v143 v144 v145 v146 v147 v148 v149 v150 v151 v152 v153 v154 v155 v156 v157 v158 v159 v160 v161 v162 v163 v164 v165 v166 v167 v168 v169 v170 v171 v172 v173 v174 v175 v176 v177 v178 v179 v180 v181 v182 v183 v184 v185 v186 v187 v188 v189 v190 v191 v192 v193 v194 v195 v196 v197 v198 v199 v200 v201 v202 v203 v204 v205 v206 v207 v208 v209 v210 v211 v212 v213 v214 v215 v216 v217 v218 v219 v220 v221 v222 v223 v224 v225 v226 v227 v228 v229 v230 v231 v232 v233 v234 v235 v236 v237 v238 v239 v240 v241 v242 v243 v244 v245 v246 v247 v248 v249 v250 v251 v252 v253 v254 v255 v256 v257 v258 v259 v260 v261 v262 v263 v264 v265 v266 v267 v268 v269 v270 H' w' hw' hb'
          dsimp only
          go_wp2_with fail
          go_roundg (NB - (nb + 1))
          case measure => omega
          case rel => exact ⟨nb + 1, H', by omega, rfl, rfl, Lib.hid hw', HB6.out.trans (hb'.mono HB6.out.size)⟩
        · obtain rfl : nb = NB := by omega
          obtain ⟨w8, hw8⟩ : ∃ w8, w8 = wr := ⟨_, rfl⟩
          subst hw8
          obtain ⟨r, hr⟩ : ∃ r, r = blocks m nb := ⟨_, rfl⟩
          rw [← hr] at hh
          have HD := Lib.hid (show r.list.flatMap four = digest (nats s) by
            unfold digest
            rw [← HMm.out, HNB.out, show 64 * nb / 64 = nb by omega, hr])
          have HB6 := Lib.hid hb
          have HO := Lib.hid (OwnsM.of (World.ownsRow_made (base := w8.heap.size) (e := 5) (size := 1) w8 #[] 0 (Nat.le_refl _) (by simp) (by simp)))
          have HA := Lib.hid ((Below.refl w8.heap.size w8).alloc (Nat.le_refl _) (.cells #[] 5))
          have hl8 : r.list.length = 8 := rfl
          clear hlt hr hb
          go_wp2_with fail
          go_loopg [25, 26] 8 (fun gh s25 s26 wx => ∃ t : Nat, t + gh = 8 ∧ s26 = .int .i64 (t : Int) ∧ OwnsM wx w8.heap.size 5 s25 (4 * t) (byteVals ((r.list.take t).flatMap four)) ∧ Below w8.heap.size w8 wx)
          case atStart => exact ⟨0, rfl, by go_num, HO.out, HA.out⟩
          case round =>
            clear HO HA
            obtain ⟨t, ht, rfl, hown, hb⟩ := hrel
            obtain ⟨p25, c25, rfl⟩ := hown.shape
            by_cases h8 : t < 8
            · have h8' : (t : Int) < 8 := by omega
              obtain ⟨z, hz⟩ : ∃ z, r.list[t]? = some z := ⟨_, List.getElem?_eq_getElem (by omega)⟩
              obtain ⟨zl, zc⟩ := (hh.out.grown hb) t z hz
              have u1 : IntKind.u64.wrap (z : Int) = (z : Int) := by rw [IntKind.wrap_u64]; omega
              have HT := Lib.hid (show (r.list.take (t + 1)).flatMap four = (r.list.take t).flatMap four ++ four z by rw [List.take_add_one, hz, List.flatMap_append]; simp)
              have HN4 := Lib.hid (fun w => number_four' z w (by omega))
              have HO := Lib.hid (hown.alloc (.cells (byteVals (four z)).toArray 5))
              have HB := Lib.hid (hb.alloc hb.size (.cells (byteVals (four z)).toArray 5))
              have hs9 := hb.size
              clear hown hb hz
              go_wp2_with (first
                | (go_at_call 51; refine (HN4.out _).mono ?_; rintro e w ⟨rfl, rfl⟩)
                | (at_builtin; refine wpList_append_m rfl _ _ 99 rfl w8.heap.size 5 ib (.int .u8 0) 1 Tryz.underlying99 hib hb0 hb1 hb2 rfl _ _ _ rfl HO.out ⟨_, 0, none⟩ 4 4 (byteVals (four z)) rfl rfl (cells_new _ _ _ _ rfl) (byteVals_one _) (by unfold maxLen; omega) (by omega) (by simp; omega) ?_; intro v9 w9 hown9 hgrow9))
              have hB9 : Below w8.heap.size w8 w9 := HB.out.grown hgrow9 (by simp; omega) (fun q hq => (HO.out.lt q hq).1)
              go_roundg (8 - (t + 1))
              case measure => omega
              case rel => exact ⟨t + 1, by omega, by go_num, by rw [show 4 * (t + 1) = 4 * t + 4 by omega, HT.out, byteVals_append]; exact hown9, hB9⟩
            · obtain rfl : t = 8 := by omega
              have ht8 : r.list.take 8 = r.list := List.take_of_length_le (by omega)
              rw [ht8, HD.out] at hown
              have hown' : OwnsM wr w8.heap.size 5 (.slice p25 32 c25) 32 (byteVals (digest (nats s))) := hown
              obtain ⟨gg, cc, he, _, _, _, _, hcells, _⟩ := hown'.open (by decide)
              simp only [Value.slice.injEq] at he
              obtain ⟨rfl, _, rfl⟩ := he
              have hcv := text_any wr gg c25 (digest (nats s)) (digest_lt _) (fun j hj => hcells j (by rw [digest_len] at hj; exact hj))
              rw [digest_len] at hcv
              have HB := Lib.hid hb
              clear hown hown' hb h8
              go_wp2
              go_ret
              exact ⟨rfl, HB5.out.trans (HB6.out.mono HB5.out.size |>.trans (HB.out.mono (Nat.le_trans HB5.out.size HB6.out.size)))⟩
end Go.Proofs.YtajhegjemhegiaaGreatDoor
namespace Go.Proofs.YtajhegjemhegiaaGreatDoor
open Go.RowKit ShaMath TextNat

theorem nats_at (s : ByteArray) (i : Nat) (h : i < s.size) : (nats s)[i]? = some (s[i].toNat) := by
  rw [nats, List.getElem?_map]
  have e : s.data.toList[i]? = some s[i] := by
    rw [Array.getElem?_toList]
    exact Array.getElem?_eq_getElem h
  rw [e]
  rfl
theorem place_eq {G b off : Nat} (h : some (⟨G, 0, none⟩ : Addr) = some ⟨b, off, none⟩) : b = G ∧ off = 0 := by
  simp only [Option.some.injEq, Addr.mk.injEq] at h
  exact ⟨h.1.symm, h.2.1.symm⟩
theorem filled_succ (k : List Nat) (c i : Nat) (h : i < 64) : (filled k c).take (i + 1) = (filled k c).take i ++ [k.getD i 0 ^^^ c] := by
  rw [List.take_add_one]
  congr 1
  unfold filled
  rw [List.getElem?_map, List.getElem?_range h]
  rfl
theorem below_step {W a b : World} (h : Below W.heap.size W a) (hb : Below a.heap.size a b) : Below W.heap.size W b := h.trans (hb.mono h.size)

set_option maxRecDepth 100000 in
set_option maxHeartbeats 16000000 in
theorem refTag_short (key s : ByteArray) (w : World) (hk : key.size ≤ 64) (hs : s.size ≤ 5000) :
    Calls Tryz.prog 28 #[.string key, .string s] w fun e w' => e = .returned (.string (txt (tag (nats key) (nats s)))) ∧ Below w.heap.size w w' := by
  obtain ⟨ib, hib, hb0, hb1, hb2⟩ := info_parts infoB
  obtain ⟨k, hkd⟩ : ∃ k, k = nats key := ⟨_, rfl⟩
  have HKD := Lib.hid hkd
  have hkl : k.length = key.size := by rw [hkd]; exact nats_len key
  have hklt : ∀ b ∈ k, b < 256 := by rw [hkd]; exact nats_lt key
  have HKL := Lib.hid hkl
  have HKT := Lib.hid hklt
  have t0 : decide ((64 : Int) < (key.size : Int)) = false := by simp; omega
  have hwB : w.heap.size ≤ w.heap.size := Nat.le_refl _
  have hwb : Below w.heap.size w w := Below.refl _ _
  have O1 := OwnsM.of (World.ownsRow_made (base := w.heap.size) (e := 5) (size := 1) w #[] 0 hwB (by simp) (by simp))
  have O2 := OwnsM.of (World.ownsRow_made (base := w.heap.size) (e := 5) (size := 1) (w.alloc (.cells #[] 5)) #[] 0 (by simp) (by simp) (by simp))
  have H1 := Lib.hid (O1.alloc (.cells #[] 5))
  have H2 := Lib.hid O2
  have HA := Lib.hid ((hwb.alloc hwB (.cells #[] 5)).alloc (by simp) (.cells #[] 5))
  clear hkd hkl hklt O1 O2 hwB hwb
  go_enter Tryz.func28, Tryz.ntmps28
  go_wp2_with fail
  go_loopg [5, 6, 7] 64 (fun gh s5 s6 s7 wx => ∃ i g5 c5 g6 c6 : Nat, i + gh = 64 ∧ s7 = .int .i64 (i : Int) ∧ s5 = .slice (some ⟨g5, 0, none⟩) i c5 ∧ s6 = .slice (some ⟨g6, 0, none⟩) i c6 ∧ Hid (OwnsM wx w.heap.size 5 (.slice (some ⟨g5, 0, none⟩) i c5) i (byteVals ((filled k 54).take i))) ∧ Hid (OwnsM wx w.heap.size 5 (.slice (some ⟨g6, 0, none⟩) i c6) i (byteVals ((filled k 92).take i))) ∧ g5 ≠ g6 ∧ Hid (Below w.heap.size w wx))
  case atStart => exact ⟨0, w.heap.size, 0, w.heap.size + 1, 0, rfl, by go_num, rfl, by simp, H1, Lib.hid (by have h := H2.out; simpa [byteVals] using h), by omega, HA⟩
  case round =>
    clear H1 H2 HA
    obtain ⟨i, g5, c5, g6, c6, hi, rfl, rfl, rfl, h5, h6, hne, hb⟩ := hrel
    by_cases h64 : i < 64
    · have h64' : (i : Int) < 64 := by omega
      obtain ⟨z, hz⟩ : ∃ z, z = k.getD i 0 := ⟨_, rfl⟩
      have hz8 : z < 256 := by
        rw [hz, List.getD_eq_getElem?_getD]
        cases hq : k[i]? with
        | none => simp
        | some y => simpa using HKT.out y (List.mem_of_getElem? hq)
      obtain ⟨u, hu⟩ : ∃ u, u = z ^^^ 54 := ⟨_, rfl⟩
      obtain ⟨v, hv⟩ : ∃ v, v = z ^^^ 92 := ⟨_, rfl⟩
      have e1 : bits .xor .u8 (z : Int) 54 = (u : Int) := by rw [hu]; exact u8_xor_nat z 54 hz8 (by decide)
      have e2 : bits .xor .u8 (z : Int) 92 = (v : Int) := by rw [hv]; exact u8_xor_nat z 92 hz8 (by decide)
      have HF := Lib.hid (show (filled k 54).take (i + 1) = (filled k 54).take i ++ [u] by rw [filled_succ k 54 i h64, ← hz, ← hu])
      have HG := Lib.hid (show (filled k 92).take (i + 1) = (filled k 92).take i ++ [v] by rw [filled_succ k 92 i h64, ← hz, ← hv])
      have HO := Lib.hid (h5.out.alloc (.cells #[.int .u8 (u : Int)] 5))
      have HP := Lib.hid (h6.out.alloc (.cells #[.int .u8 (u : Int)] 5))
      have HB := Lib.hid (hb.out.alloc hb.out.size (.cells #[.int .u8 (u : Int)] 5))
      have hs9 := hb.out.size
      clear h5 h6 hb
      have fin : ∀ (v3 : Value) (w3 : World) (v4 : Value) (w4 : World), OwnsM w3 w.heap.size 5 v3 (i + 1) (byteVals ((filled k 54).take i) ++ [.int .u8 (u : Int)]) → (wr.alloc (.cells #[.int .u8 (u : Int)] 5)).grownBy w3 (some g5) → (∀ k, v3.ownBlock = some k → some g5 = some k ∨ (wr.alloc (.cells #[.int .u8 (u : Int)] 5)).heap.size ≤ k) →
          OwnsM w4 w.heap.size 5 v4 (i + 1) (byteVals ((filled k 92).take i) ++ [.int .u8 (v : Int)]) → (w3.alloc (.cells #[.int .u8 (v : Int)] 5)).grownBy w4 (some g6) → (∀ k, v4.ownBlock = some k → some g6 = some k ∨ (w3.alloc (.cells #[.int .u8 (v : Int)] 5)).heap.size ≤ k) →
          ∃ i' g5' c5' g6' c6' : Nat, i' + (64 - (i + 1)) = 64 ∧ Value.int .i64 ((i : Int) + 1) = .int .i64 (i' : Int) ∧ v3 = .slice (some ⟨g5', 0, none⟩) i' c5' ∧ v4 = .slice (some ⟨g6', 0, none⟩) i' c6' ∧ Hid (OwnsM w4 w.heap.size 5 (.slice (some ⟨g5', 0, none⟩) i' c5') i' (byteVals ((filled k 54).take i'))) ∧ Hid (OwnsM w4 w.heap.size 5 (.slice (some ⟨g6', 0, none⟩) i' c6') i' (byteVals ((filled k 92).take i'))) ∧ g5' ≠ g6' ∧ Hid (Below w.heap.size w w4) := by
        intro v3 w3 v4 w4 ho3 hg3 hf3 ho4 hg4 hf4
        have hB3 : Below w.heap.size w w3 := HB.out.grown hg3 HB.out.size (fun q hq => by rw [← Option.some.inj hq]; exact (HO.out.lt g5 rfl).1)
        obtain ⟨a5, d5, rfl, _, hl5, _, _, _, _⟩ := ho3.open (by omega)
        obtain ⟨a6, d6, rfl, _, hl6, _, _, _, _⟩ := ho4.open (by omega)
        have hg6l := (HP.out.lt g6 rfl).2
        have hs3 := hg3.size
        have k5 := hf3 a5 rfl
        have k6 := hf4 a6 rfl
        have hs4 : (w3.alloc (.cells #[.int .u8 (v : Int)] 5)).heap.size = w3.heap.size + 1 := by simp
        have n5 : a5 ≠ g6 := by
          rcases k5 with h | h
          · rw [← Option.some.inj h]; exact hne
          · omega
        have n6 : a5 ≠ a6 := by
          rcases k6 with h | h
          · rw [← Option.some.inj h]; exact n5
          · omega
        have hB4 : Below w.heap.size w w4 := (hB3.alloc hB3.size _).grown hg4 (by have := hB3.size; omega) (fun q hq => by rw [← Option.some.inj hq]; exact (HP.out.lt g6 rfl).1)
        refine ⟨i + 1, a5, d5, a6, d6, by omega, by congr 1, rfl, rfl, Lib.hid ?_, Lib.hid ?_, n6, Lib.hid hB4⟩
        · rw [HF.out, byteVals_append]
          exact (ho3.alloc _).kept hg4 (.inr (by simp [Value.ownBlock]; exact n5))
        · rw [HG.out, byteVals_append]
          exact ho4
      by_cases hik : i < key.size
      · have hx : ((key[i]'hik).toNat : Int) = (z : Int) := by
          have h1 := nats_at key i hik
          rw [hz, HKD.out, List.getD_eq_getElem?_getD, h1]
          rfl
        have t1 : decide (i < key.size) = true := by simpa using hik
        have FIN := Lib.hid fin
        clear hz hu hv fin
        go_wp2_with (first
          | (at_builtin; refine wpList_append_far rfl _ _ 99 rfl w.heap.size 5 ib (.int .u8 0) 1 Tryz.underlying99 hib hb0 hb1 hb2 rfl _ _ _ rfl HO.out ⟨_, 0, none⟩ 1 1 [.int .u8 (u : Int)] rfl rfl (one_at _ _ _ _ rfl) (fun u hu => by simp at hu; subst hu; rfl) (by unfold maxLen; omega) (by omega) (by simp; omega) ?_; intro v3 w3 hown3 hgrow3 hfar3; replace hgrow3 : World.grownBy _ w3 (some g5) := hgrow3; have HP3 := Lib.hid ((HP.out.kept hgrow3 (.inr (fun h => hne (Option.some.inj h).symm))).alloc (.cells #[.int .u8 (v : Int)] 5)); have hsz3 := hgrow3.size; have HOWN3 := Lib.hid hown3; have HGR3 := Lib.hid hgrow3; have HFAR3 := Lib.hid hfar3; clear hown3 hgrow3 hfar3)
          | (at_builtin; refine wpList_append_far rfl _ _ 99 rfl w.heap.size 5 ib (.int .u8 0) 1 Tryz.underlying99 hib hb0 hb1 hb2 rfl _ _ _ rfl HP3.out ⟨_, 0, none⟩ 1 1 [.int .u8 (v : Int)] rfl rfl (one_at _ _ _ _ rfl) (fun u hu => by simp at hu; subst hu; rfl) (by unfold maxLen; omega) (by omega) (by simp at hsz3 ⊢; omega) ?_; intro v4 w4 hown4 hgrow4 hfar4))
        go_roundg (64 - (i + 1))
        case measure => omega
        case rel => exact FIN.out v3 w3 v4 w4 HOWN3.out HGR3.out HFAR3.out hown4 hgrow4 hfar4
      · have hz0 : z = 0 := by rw [hz, List.getD_eq_getElem?_getD, List.getElem?_eq_none (by rw [HKL.out]; omega)]; rfl
        have e10 : bits .xor .u8 (0 : Int) 54 = (u : Int) := by rw [hz0] at e1; exact e1
        have e20 : bits .xor .u8 (0 : Int) 92 = (v : Int) := by rw [hz0] at e2; exact e2
        have t1 : decide (i < key.size) = false := by simpa using hik
        have FIN := Lib.hid fin
        clear hz hu hv fin hz0 e1 e2
        go_wp2_with (first
          | (at_builtin; refine wpList_append_far rfl _ _ 99 rfl w.heap.size 5 ib (.int .u8 0) 1 Tryz.underlying99 hib hb0 hb1 hb2 rfl _ _ _ rfl HO.out ⟨_, 0, none⟩ 1 1 [.int .u8 (u : Int)] rfl rfl (one_at _ _ _ _ rfl) (fun u hu => by simp at hu; subst hu; rfl) (by unfold maxLen; omega) (by omega) (by simp; omega) ?_; intro v3 w3 hown3 hgrow3 hfar3; replace hgrow3 : World.grownBy _ w3 (some g5) := hgrow3; have HP3 := Lib.hid ((HP.out.kept hgrow3 (.inr (fun h => hne (Option.some.inj h).symm))).alloc (.cells #[.int .u8 (v : Int)] 5)); have hsz3 := hgrow3.size; have HOWN3 := Lib.hid hown3; have HGR3 := Lib.hid hgrow3; have HFAR3 := Lib.hid hfar3; clear hown3 hgrow3 hfar3)
          | (at_builtin; refine wpList_append_far rfl _ _ 99 rfl w.heap.size 5 ib (.int .u8 0) 1 Tryz.underlying99 hib hb0 hb1 hb2 rfl _ _ _ rfl HP3.out ⟨_, 0, none⟩ 1 1 [.int .u8 (v : Int)] rfl rfl (one_at _ _ _ _ rfl) (fun u hu => by simp at hu; subst hu; rfl) (by unfold maxLen; omega) (by omega) (by simp at hsz3 ⊢; omega) ?_; intro v4 w4 hown4 hgrow4 hfar4))
        go_roundg (64 - (i + 1))
        case measure => omega
        case rel => exact FIN.out v3 w3 v4 w4 HOWN3.out HGR3.out HFAR3.out hown4 hgrow4 hfar4
    · obtain rfl : i = 64 := by omega
      have f5 : (filled k 54).take 64 = filled k 54 := List.take_of_length_le (by rw [filled_len]; decide)
      have f6 : (filled k 92).take 64 = filled k 92 := List.take_of_length_le (by rw [filled_len]; decide)
      have h5' := h5.out
      have h6' := h6.out
      rw [f5] at h5'
      rw [f6] at h6'
      have l5 : g5 < wr.heap.size := (h5'.lt g5 rfl).2
      have l6 : g6 < wr.heap.size := (h6'.lt g6 rfl).2
      have cv : ∀ (g c x : Nat), g < wr.heap.size → x < 256 → OwnsM wr w.heap.size 5 (.slice (some ⟨g, 0, none⟩) 64 c) 64 (byteVals (filled k x)) → ∀ w', Below wr.heap.size wr w' →
          (convert 99 9 (.slice (some ⟨g, 0, none⟩) 64 c)).run Tryz.prog w' = .ok (.string (txt (filled k x))) w' := by
        intro g c x hg hx ho w' hb'
        obtain ⟨g', c', he, _, _, _, _, hcells, _⟩ := ho.open (by decide)
        simp only [Value.slice.injEq] at he
        have hgg := (place_eq he.1).1
        have h := text_any w' g c (filled k x) (filled_lt HKT.out hx) (fun j hj => by
          rw [filled_len] at hj
          rw [← hcells j hj, hgg]
          exact hb'.cell (p := ⟨g, j, none⟩) hg)
        rw [filled_len] at h
        exact h
      have E5 := cv g5 c5 54 l5 (by decide) h5'
      have E6 := cv g6 c6 92 l6 (by decide) h6'
      obtain ⟨SI, hSI⟩ : ∃ SI, SI = txt (filled k 54) := ⟨_, rfl⟩
      obtain ⟨SO, hSO⟩ : ∃ SO, SO = txt (filled k 92) := ⟨_, rfl⟩
      have zI : SI.size = 64 := by rw [hSI, txt_len, filled_len]
      have zO : SO.size = 64 := by rw [hSO, txt_len, filled_len]
      have nI : nats SI = filled k 54 := by rw [hSI]; exact nats_txt _ (filled_lt HKT.out (by decide))
      have nO : nats SO = filled k 92 := by rw [hSO]; exact nats_txt _ (filled_lt HKT.out (by decide))
      rw [← hSI] at E5
      rw [← hSO] at E6
      obtain ⟨D1, hD1⟩ : ∃ D1, D1 = txt (digest (nats (SI ++ s))) := ⟨_, rfl⟩
      have zD : D1.size = 32 := by rw [hD1, txt_len, digest_len]
      have nD : nats D1 = digest (nats (SI ++ s)) := by rw [hD1]; exact nats_txt _ (digest_lt _)
      have Q1 := Lib.hid (fun w => refDigest (SI ++ s) w (by rw [ByteArray.size_append]; omega))
      have Q2 := Lib.hid (fun w => refDigest (SO ++ D1) w (by rw [ByteArray.size_append]; omega))
      rw [← hD1] at Q1
      have HR := Lib.hid (show txt (digest (nats (SO ++ D1))) = txt (tag (nats key) (nats s)) by
        unfold tag
        rw [nats_append, nO, nD, nats_append, nI, ← HKD.out, show short k = k by unfold short; rw [if_neg (by rw [HKL.out]; omega)]])
      have HBW := Lib.hid hb.out
      have hB0 : Below wr.heap.size wr wr := Below.refl _ _
      have hB1 : Below wr.heap.size wr wr.drew := (Below.refl _ _).drew
      have z1 : (SI ++ s).size ≤ 10000 := by rw [ByteArray.size_append]; omega
      have z2 : (SO ++ D1).size ≤ 10000 := by rw [ByteArray.size_append]; omega
      clear hSI hSO hD1 cv h5 h6 h5' h6' f5 f6 hb nI nO nD h64
      go_wp2_with fail
      go_region_with (first
        | (go_at_call_of 50 (SI ++ s); refine (Q1.out _).mono ?_; rintro e w5 ⟨rfl, hb5⟩; have hq5 : Below wr.heap.size wr w5 := below_step (by go_grown) hb5)
        | (go_at_call 50; refine (Q2.out _).mono ?_; rintro e w6 ⟨rfl, hb6⟩; have hq6 : Below wr.heap.size wr w6 := below_step (by go_grown) hb6))
      all_goals (go_wp2; go_ret; exact ⟨by rw [← HR.out]; rfl, HBW.out.trans (Below.mono (B := wr.heap.size) (by go_grown) HBW.out.size)⟩)

set_option maxRecDepth 100000 in
set_option maxHeartbeats 16000000 in
theorem refTag_long (key0 s : ByteArray) (w : World) (hk0 : 64 < key0.size) (hk1 : key0.size ≤ 5000) (hs : s.size ≤ 5000) :
    Calls Tryz.prog 28 #[.string key0, .string s] w fun e w' => e = .returned (.string (txt (tag (nats key0) (nats s)))) ∧ Below w.heap.size w w' := by
  obtain ⟨key, hkey⟩ : ∃ key, key = txt (digest (nats key0)) := ⟨_, rfl⟩
  have hk : key.size ≤ 64 := by rw [hkey, txt_len, digest_len]; decide
  have hkn : nats key = short (nats key0) := by rw [hkey, nats_txt _ (digest_lt _)]; unfold short; rw [if_pos (by rw [nats_len]; exact hk0)]
  obtain ⟨ib, hib, hb0, hb1, hb2⟩ := info_parts infoB
  obtain ⟨k, hkd⟩ : ∃ k, k = nats key := ⟨_, rfl⟩
  have HKD := Lib.hid hkd
  have hkl : k.length = key.size := by rw [hkd]; exact nats_len key
  have hklt : ∀ b ∈ k, b < 256 := by rw [hkd]; exact nats_lt key
  have HKL := Lib.hid hkl
  have HKT := Lib.hid hklt
  have t0 : decide ((64 : Int) < (key.size : Int)) = false := by simp; omega
  have hzl : 64 < key0.size := hk0
  have t00 : decide ((64 : Int) < (key0.size : Int)) = true := by simp; omega
  have HD0 := Lib.hid (refDigest key0 w (by omega))
  rw [← hkey] at HD0
  have HKK := Lib.hid hkn
  clear hkd hkl hklt hkey hkn
  go_enter Tryz.func28, Tryz.ntmps28
  go_wp2_with fail
  refine HD0.out.mono ?_
  rintro e wx ⟨rfl, hwb⟩
  have hwB := hwb.size
  have O1 := OwnsM.of (World.ownsRow_made (base := w.heap.size) (e := 5) (size := 1) wx #[] 0 hwB (by simp) (by simp))
  have O2 := OwnsM.of (World.ownsRow_made (base := w.heap.size) (e := 5) (size := 1) (wx.alloc (.cells #[] 5)) #[] 0 (by simp; omega) (by simp) (by simp))
  have H1 := Lib.hid (O1.alloc (.cells #[] 5))
  have H2 := Lib.hid O2
  have HA := Lib.hid ((hwb.alloc hwB (.cells #[] 5)).alloc (by simp; omega) (.cells #[] 5))
  clear O1 O2 hwB hwb
  go_wp2_with fail
  go_loopg [5, 6, 7] 64 (fun gh s5 s6 s7 wx => ∃ i g5 c5 g6 c6 : Nat, i + gh = 64 ∧ s7 = .int .i64 (i : Int) ∧ s5 = .slice (some ⟨g5, 0, none⟩) i c5 ∧ s6 = .slice (some ⟨g6, 0, none⟩) i c6 ∧ Hid (OwnsM wx w.heap.size 5 (.slice (some ⟨g5, 0, none⟩) i c5) i (byteVals ((filled k 54).take i))) ∧ Hid (OwnsM wx w.heap.size 5 (.slice (some ⟨g6, 0, none⟩) i c6) i (byteVals ((filled k 92).take i))) ∧ g5 ≠ g6 ∧ Hid (Below w.heap.size w wx))
  case atStart => exact ⟨0, wx.heap.size, 0, wx.heap.size + 1, 0, rfl, by go_num, rfl, by simp, H1, Lib.hid (by have h := H2.out; simpa [byteVals] using h), by omega, HA⟩
  case round =>
    clear H1 H2 HA
    obtain ⟨i, g5, c5, g6, c6, hi, rfl, rfl, rfl, h5, h6, hne, hb⟩ := hrel
    by_cases h64 : i < 64
    · have h64' : (i : Int) < 64 := by omega
      obtain ⟨z, hz⟩ : ∃ z, z = k.getD i 0 := ⟨_, rfl⟩
      have hz8 : z < 256 := by
        rw [hz, List.getD_eq_getElem?_getD]
        cases hq : k[i]? with
        | none => simp
        | some y => simpa using HKT.out y (List.mem_of_getElem? hq)
      obtain ⟨u, hu⟩ : ∃ u, u = z ^^^ 54 := ⟨_, rfl⟩
      obtain ⟨v, hv⟩ : ∃ v, v = z ^^^ 92 := ⟨_, rfl⟩
      have e1 : bits .xor .u8 (z : Int) 54 = (u : Int) := by rw [hu]; exact u8_xor_nat z 54 hz8 (by decide)
      have e2 : bits .xor .u8 (z : Int) 92 = (v : Int) := by rw [hv]; exact u8_xor_nat z 92 hz8 (by decide)
      have HF := Lib.hid (show (filled k 54).take (i + 1) = (filled k 54).take i ++ [u] by rw [filled_succ k 54 i h64, ← hz, ← hu])
      have HG := Lib.hid (show (filled k 92).take (i + 1) = (filled k 92).take i ++ [v] by rw [filled_succ k 92 i h64, ← hz, ← hv])
      have HO := Lib.hid (h5.out.alloc (.cells #[.int .u8 (u : Int)] 5))
      have HP := Lib.hid (h6.out.alloc (.cells #[.int .u8 (u : Int)] 5))
      have HB := Lib.hid (hb.out.alloc hb.out.size (.cells #[.int .u8 (u : Int)] 5))
      have hs9 := hb.out.size
      clear h5 h6 hb
      have fin : ∀ (v3 : Value) (w3 : World) (v4 : Value) (w4 : World), OwnsM w3 w.heap.size 5 v3 (i + 1) (byteVals ((filled k 54).take i) ++ [.int .u8 (u : Int)]) → (wr.alloc (.cells #[.int .u8 (u : Int)] 5)).grownBy w3 (some g5) → (∀ k, v3.ownBlock = some k → some g5 = some k ∨ (wr.alloc (.cells #[.int .u8 (u : Int)] 5)).heap.size ≤ k) →
          OwnsM w4 w.heap.size 5 v4 (i + 1) (byteVals ((filled k 92).take i) ++ [.int .u8 (v : Int)]) → (w3.alloc (.cells #[.int .u8 (v : Int)] 5)).grownBy w4 (some g6) → (∀ k, v4.ownBlock = some k → some g6 = some k ∨ (w3.alloc (.cells #[.int .u8 (v : Int)] 5)).heap.size ≤ k) →
          ∃ i' g5' c5' g6' c6' : Nat, i' + (64 - (i + 1)) = 64 ∧ Value.int .i64 ((i : Int) + 1) = .int .i64 (i' : Int) ∧ v3 = .slice (some ⟨g5', 0, none⟩) i' c5' ∧ v4 = .slice (some ⟨g6', 0, none⟩) i' c6' ∧ Hid (OwnsM w4 w.heap.size 5 (.slice (some ⟨g5', 0, none⟩) i' c5') i' (byteVals ((filled k 54).take i'))) ∧ Hid (OwnsM w4 w.heap.size 5 (.slice (some ⟨g6', 0, none⟩) i' c6') i' (byteVals ((filled k 92).take i'))) ∧ g5' ≠ g6' ∧ Hid (Below w.heap.size w w4) := by
        intro v3 w3 v4 w4 ho3 hg3 hf3 ho4 hg4 hf4
        have hB3 : Below w.heap.size w w3 := HB.out.grown hg3 HB.out.size (fun q hq => by rw [← Option.some.inj hq]; exact (HO.out.lt g5 rfl).1)
        obtain ⟨a5, d5, rfl, _, hl5, _, _, _, _⟩ := ho3.open (by omega)
        obtain ⟨a6, d6, rfl, _, hl6, _, _, _, _⟩ := ho4.open (by omega)
        have hg6l := (HP.out.lt g6 rfl).2
        have hs3 := hg3.size
        have k5 := hf3 a5 rfl
        have k6 := hf4 a6 rfl
        have hs4 : (w3.alloc (.cells #[.int .u8 (v : Int)] 5)).heap.size = w3.heap.size + 1 := by simp
        have n5 : a5 ≠ g6 := by
          rcases k5 with h | h
          · rw [← Option.some.inj h]; exact hne
          · omega
        have n6 : a5 ≠ a6 := by
          rcases k6 with h | h
          · rw [← Option.some.inj h]; exact n5
          · omega
        have hB4 : Below w.heap.size w w4 := (hB3.alloc hB3.size _).grown hg4 (by have := hB3.size; omega) (fun q hq => by rw [← Option.some.inj hq]; exact (HP.out.lt g6 rfl).1)
        refine ⟨i + 1, a5, d5, a6, d6, by omega, by congr 1, rfl, rfl, Lib.hid ?_, Lib.hid ?_, n6, Lib.hid hB4⟩
        · rw [HF.out, byteVals_append]
          exact (ho3.alloc _).kept hg4 (.inr (by simp [Value.ownBlock]; exact n5))
        · rw [HG.out, byteVals_append]
          exact ho4
      by_cases hik : i < key.size
      · have hx : ((key[i]'hik).toNat : Int) = (z : Int) := by
          have h1 := nats_at key i hik
          rw [hz, HKD.out, List.getD_eq_getElem?_getD, h1]
          rfl
        have t1 : decide (i < key.size) = true := by simpa using hik
        have FIN := Lib.hid fin
        clear hz hu hv fin
        go_wp2_with (first
          | (at_builtin; refine wpList_append_far rfl _ _ 99 rfl w.heap.size 5 ib (.int .u8 0) 1 Tryz.underlying99 hib hb0 hb1 hb2 rfl _ _ _ rfl HO.out ⟨_, 0, none⟩ 1 1 [.int .u8 (u : Int)] rfl rfl (one_at _ _ _ _ rfl) (fun u hu => by simp at hu; subst hu; rfl) (by unfold maxLen; omega) (by omega) (by simp; omega) ?_; intro v3 w3 hown3 hgrow3 hfar3; replace hgrow3 : World.grownBy _ w3 (some g5) := hgrow3; have HP3 := Lib.hid ((HP.out.kept hgrow3 (.inr (fun h => hne (Option.some.inj h).symm))).alloc (.cells #[.int .u8 (v : Int)] 5)); have hsz3 := hgrow3.size; have HOWN3 := Lib.hid hown3; have HGR3 := Lib.hid hgrow3; have HFAR3 := Lib.hid hfar3; clear hown3 hgrow3 hfar3)
          | (at_builtin; refine wpList_append_far rfl _ _ 99 rfl w.heap.size 5 ib (.int .u8 0) 1 Tryz.underlying99 hib hb0 hb1 hb2 rfl _ _ _ rfl HP3.out ⟨_, 0, none⟩ 1 1 [.int .u8 (v : Int)] rfl rfl (one_at _ _ _ _ rfl) (fun u hu => by simp at hu; subst hu; rfl) (by unfold maxLen; omega) (by omega) (by simp at hsz3 ⊢; omega) ?_; intro v4 w4 hown4 hgrow4 hfar4))
        go_roundg (64 - (i + 1))
        case measure => omega
        case rel => exact FIN.out v3 w3 v4 w4 HOWN3.out HGR3.out HFAR3.out hown4 hgrow4 hfar4
      · have hz0 : z = 0 := by rw [hz, List.getD_eq_getElem?_getD, List.getElem?_eq_none (by rw [HKL.out]; omega)]; rfl
        have e10 : bits .xor .u8 (0 : Int) 54 = (u : Int) := by rw [hz0] at e1; exact e1
        have e20 : bits .xor .u8 (0 : Int) 92 = (v : Int) := by rw [hz0] at e2; exact e2
        have t1 : decide (i < key.size) = false := by simpa using hik
        have FIN := Lib.hid fin
        clear hz hu hv fin hz0 e1 e2
        go_wp2_with (first
          | (at_builtin; refine wpList_append_far rfl _ _ 99 rfl w.heap.size 5 ib (.int .u8 0) 1 Tryz.underlying99 hib hb0 hb1 hb2 rfl _ _ _ rfl HO.out ⟨_, 0, none⟩ 1 1 [.int .u8 (u : Int)] rfl rfl (one_at _ _ _ _ rfl) (fun u hu => by simp at hu; subst hu; rfl) (by unfold maxLen; omega) (by omega) (by simp; omega) ?_; intro v3 w3 hown3 hgrow3 hfar3; replace hgrow3 : World.grownBy _ w3 (some g5) := hgrow3; have HP3 := Lib.hid ((HP.out.kept hgrow3 (.inr (fun h => hne (Option.some.inj h).symm))).alloc (.cells #[.int .u8 (v : Int)] 5)); have hsz3 := hgrow3.size; have HOWN3 := Lib.hid hown3; have HGR3 := Lib.hid hgrow3; have HFAR3 := Lib.hid hfar3; clear hown3 hgrow3 hfar3)
          | (at_builtin; refine wpList_append_far rfl _ _ 99 rfl w.heap.size 5 ib (.int .u8 0) 1 Tryz.underlying99 hib hb0 hb1 hb2 rfl _ _ _ rfl HP3.out ⟨_, 0, none⟩ 1 1 [.int .u8 (v : Int)] rfl rfl (one_at _ _ _ _ rfl) (fun u hu => by simp at hu; subst hu; rfl) (by unfold maxLen; omega) (by omega) (by simp at hsz3 ⊢; omega) ?_; intro v4 w4 hown4 hgrow4 hfar4))
        go_roundg (64 - (i + 1))
        case measure => omega
        case rel => exact FIN.out v3 w3 v4 w4 HOWN3.out HGR3.out HFAR3.out hown4 hgrow4 hfar4
    · obtain rfl : i = 64 := by omega
      have f5 : (filled k 54).take 64 = filled k 54 := List.take_of_length_le (by rw [filled_len]; decide)
      have f6 : (filled k 92).take 64 = filled k 92 := List.take_of_length_le (by rw [filled_len]; decide)
      have h5' := h5.out
      have h6' := h6.out
      rw [f5] at h5'
      rw [f6] at h6'
      have l5 : g5 < wr.heap.size := (h5'.lt g5 rfl).2
      have l6 : g6 < wr.heap.size := (h6'.lt g6 rfl).2
      have cv : ∀ (g c x : Nat), g < wr.heap.size → x < 256 → OwnsM wr w.heap.size 5 (.slice (some ⟨g, 0, none⟩) 64 c) 64 (byteVals (filled k x)) → ∀ w', Below wr.heap.size wr w' →
          (convert 99 9 (.slice (some ⟨g, 0, none⟩) 64 c)).run Tryz.prog w' = .ok (.string (txt (filled k x))) w' := by
        intro g c x hg hx ho w' hb'
        obtain ⟨g', c', he, _, _, _, _, hcells, _⟩ := ho.open (by decide)
        simp only [Value.slice.injEq] at he
        have hgg := (place_eq he.1).1
        have h := text_any w' g c (filled k x) (filled_lt HKT.out hx) (fun j hj => by
          rw [filled_len] at hj
          rw [← hcells j hj, hgg]
          exact hb'.cell (p := ⟨g, j, none⟩) hg)
        rw [filled_len] at h
        exact h
      have E5 := cv g5 c5 54 l5 (by decide) h5'
      have E6 := cv g6 c6 92 l6 (by decide) h6'
      obtain ⟨SI, hSI⟩ : ∃ SI, SI = txt (filled k 54) := ⟨_, rfl⟩
      obtain ⟨SO, hSO⟩ : ∃ SO, SO = txt (filled k 92) := ⟨_, rfl⟩
      have zI : SI.size = 64 := by rw [hSI, txt_len, filled_len]
      have zO : SO.size = 64 := by rw [hSO, txt_len, filled_len]
      have nI : nats SI = filled k 54 := by rw [hSI]; exact nats_txt _ (filled_lt HKT.out (by decide))
      have nO : nats SO = filled k 92 := by rw [hSO]; exact nats_txt _ (filled_lt HKT.out (by decide))
      rw [← hSI] at E5
      rw [← hSO] at E6
      obtain ⟨D1, hD1⟩ : ∃ D1, D1 = txt (digest (nats (SI ++ s))) := ⟨_, rfl⟩
      have zD : D1.size = 32 := by rw [hD1, txt_len, digest_len]
      have nD : nats D1 = digest (nats (SI ++ s)) := by rw [hD1]; exact nats_txt _ (digest_lt _)
      have Q1 := Lib.hid (fun w => refDigest (SI ++ s) w (by rw [ByteArray.size_append]; omega))
      have Q2 := Lib.hid (fun w => refDigest (SO ++ D1) w (by rw [ByteArray.size_append]; omega))
      rw [← hD1] at Q1
      have HR := Lib.hid (show txt (digest (nats (SO ++ D1))) = txt (tag (nats key0) (nats s)) by
        unfold tag
        rw [nats_append, nO, nD, nats_append, nI, ← HKK.out, ← HKD.out])
      have HBW := Lib.hid hb.out
      have hB0 : Below wr.heap.size wr wr := Below.refl _ _
      have hB1 : Below wr.heap.size wr wr.drew := (Below.refl _ _).drew
      have z1 : (SI ++ s).size ≤ 10000 := by rw [ByteArray.size_append]; omega
      have z2 : (SO ++ D1).size ≤ 10000 := by rw [ByteArray.size_append]; omega
      clear hSI hSO hD1 cv h5 h6 h5' h6' f5 f6 hb nI nO nD h64
      go_wp2_with fail
      go_region_with (first
        | (go_at_call_of 50 (SI ++ s); refine (Q1.out _).mono ?_; rintro e w5 ⟨rfl, hb5⟩; have hq5 : Below wr.heap.size wr w5 := below_step (by go_grown) hb5)
        | (go_at_call 50; refine (Q2.out _).mono ?_; rintro e w6 ⟨rfl, hb6⟩; have hq6 : Below wr.heap.size wr w6 := below_step (by go_grown) hb6))
      all_goals (go_wp2; go_ret; exact ⟨by rw [← HR.out]; rfl, HBW.out.trans (Below.mono (B := wr.heap.size) (by go_grown) HBW.out.size)⟩)

theorem refTag (key s : ByteArray) (w : World) (hk : key.size ≤ 5000) (hs : s.size ≤ 5000) :
    Calls Tryz.prog 28 #[.string key, .string s] w fun e w' => e = .returned (.string (txt (tag (nats key) (nats s)))) ∧ Below w.heap.size w w' := by
  by_cases h : 64 < key.size
  · exact refTag_long key s w h hk hs
  · exact refTag_short key s w (by omega) hs

set_option maxRecDepth 100000 in
set_option maxHeartbeats 4000000 in
theorem refDerive (key : ByteArray) (n : Int) (w : World) (hk : key.size ≤ 5000) :
    Calls Tryz.prog 29 #[.string key, .int .i64 n] w fun e w' => e = .returned (.string (txt (derive (nats key) (n % 18446744073709551616).toNat))) ∧ Below w.heap.size w w' := by
  obtain ⟨x, hx⟩ : ∃ x : Nat, x = (n % 18446744073709551616).toNat := ⟨_, rfl⟩
  have hxi : (x : Int) = n % 18446744073709551616 := by omega
  have e1 : IntKind.u64.wrap n = (x : Int) := by rw [IntKind.wrap_u64]; omega
  have HN := Lib.hid (number_eight' x w (by omega))
  have hcells := cells_new w (byteVals (eight x)) 5 w.heap.size rfl
  have hcv := text_any (w.alloc (.cells (byteVals (eight x)).toArray 5)) w.heap.size 8 (eight x) (eight_lt x) (fun j hj => by
    rw [World.cell?_alloc_mark]
    simp)
  rw [eight_len] at hcv
  have HT := Lib.hid (fun w => refTag key (⟨#[107, 101, 121]⟩ ++ txt (eight x)) w hk (by rw [ByteArray.size_append, txt_len, eight_len]; decide))
  have HB := Lib.hid ((Below.refl w.heap.size w).alloc (Nat.le_refl _) (.cells (byteVals (eight x)).toArray 5))
  have HR := Lib.hid (show txt (tag (nats key) (nats (⟨#[107, 101, 121]⟩ ++ txt (eight x)))) = txt (derive (nats key) x) by
    unfold derive
    rw [nats_append, nats_txt _ (eight_lt x)]
    rfl)
  rw [← hx]
  clear hx hxi hcells
  go_enter Tryz.func29, Tryz.ntmps29
  go_wp2_with (first
    | (go_at_call 51; refine HN.out.mono ?_; rintro e w2 ⟨rfl, rfl⟩)
    | (go_at_call 28; refine (HT.out _).mono ?_; rintro e w3 ⟨rfl, hb3⟩))
  go_ret
  exact ⟨by rw [← HR.out]; rfl, HB.out.trans (hb3.mono HB.out.size)⟩
end Go.Proofs.YtajhegjemhegiaaGreatDoor
namespace TokenMath
open TextMath WireMath

theorem numF_le : ∀ f n, (numF f n).length ≤ f + 1
  | 0, n => by simp [numF]
  | f + 1, n => by
    unfold numF
    split
    · simp
    · have := numF_le f (n / 128)
      simp only [List.length_cons]
      omega
theorem num_le (n : Nat) : (WireMath.num n).length ≤ 9 := numF_le 8 n
theorem counts_le : ∀ v : List Nat, (countsBytes v).length ≤ 9 * v.length
  | [] => by simp [countsBytes]
  | a :: v => by
    have h1 := counts_le v
    have h2 := num_le a
    unfold countsBytes at *
    simp only [List.flatMap_cons, List.length_append, List.length_cons]
    omega
theorem bytes_short {v : ClaimsT} (h : rightClaimsT v = true) : (claimsBytesT v).length ≤ 300 := by
  unfold rightClaimsT at h
  simp only [Bool.and_eq_true, decide_eq_true_eq] at h
  obtain ⟨⟨⟨⟨⟨⟨⟨a1, a2⟩, a3⟩, a4⟩, a5⟩, a6⟩, a7⟩, a8⟩ := h
  obtain ⟨c1, c2⟩ := trimmed_counts a8
  unfold claimsBytesT textBytes vecBytesN
  simp only [List.length_append]
  have := num_le v.1.length
  have := num_le v.2.1.length
  have := num_le v.2.2.1
  have := num_le v.2.2.2.1
  have := num_le v.2.2.2.2.1
  have := num_le v.2.2.2.2.2.length
  have := counts_le v.2.2.2.2.2
  omega
theorem token_short {m : List Nat} {v : ClaimsT} (h : rightClaimsT v = true) : (tokenOf m v).length ≤ 20000 := by
  have h1 := bytes_short h
  unfold tokenOf
  rw [tok_len (tag_len m v), TokenMath.enc_len]
  omega
end TokenMath
