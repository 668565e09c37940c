/- ContactLives: the switch's arm 0, as a theorem of its own. (Written by wip/tools/genclb.py.) -/
import Derived.Test.YtfikdocpcepmmaaLivB
namespace Go.Proofs.Ytfikdocpcepmmaa
open Go.RowKit Go.Sort

set_option maxRecDepth 100000 in
set_option maxHeartbeats 16000000 in
theorem clives_arm0 {c j t i o ab ao bx bl bs bh : Nat} {L : List EvtV} {w wr : World} {x : EvtV} {gf : Nat → Nat} {af : Nat → ConV} {lf : Nat → Int} {vf : Nat → Value} {Sf : Nat → List MsgV} {K KC : Act → World → Prop} {Q : Exit → Act → World → Prop}
    {v1 v2 v3 v4 v5 v6 v7 v15 v16 v17 v18 v19 v20 v21 v22 v23 v24 v25 v26 v27 v28 v29 v30 v31 v32 v33 v34 v35 v36 v37 v38 v39 v40 v41 v42 v43 v44 v45 v46 v47 v48 v49 v50 v51 v52 v53 v54 v55 v56 v57 v58 v59 v60 v61 v62 v63 v64 v65 v67 v68 v69 v70 v71 v72 v73 v74 v75 v76 v77 v78 v79 v80 v81 v82 v83 v84 v85 v86 v87 v88 v89 v90 v91 v92 v93 v94 v95 v96 v97 v98 v99 v100 v101 v102 v103 v104 v105 v106 v107 v108 v109 v110 v111 v112 v113 v114 v115 v116 v117 v118 v119 v120 v121 v122 v123 v124 v125 v126 v127 v128 v129 v130 v131 v132 v133 v134 v135 v136 v137 v138 v139 v140 v141 v142 v143 v144 v145 v146 v147 v148 v149 v150 v151 v152 v153 v154 v155 v156 v157 v158 v159 v160 v161 v162 v163 v164 v165 v166 v167 v168 v169 v170 v171 v172 v173 v174 v175 v176 v177 v178 v179 v180 v181 v182 v183 v184 v185 v186 v187 v188 v189 v190 v191 v192 v193 v194 v195 v196 v197 v198 v199 v200 v201 v202 v203 v204 v205 v206 v207 v208 v209 v210 v211 v212 v213 v214 v215 v216 v217 v218 v219 v220 v221 v222 v223 v224 v225 v226 v227 v228 v229 v230 v231 v232 v233 v234 v235 v236 v237 v238 v239 v240 v241 v242 v243 v244 v245 v246 v247 v248 v249 v250 v251 v252 v253 v254 v255 : Value}
    (hj2 : j ≤ 250) (ht : t ≤ 3 * j) (HL : Hid (LivF w wr bx bl bs bh gf af lf (hk af) vf Sf)) (HI : Hid (LivG j af lf Sf)) (hlt : j < L.length) (h250 : j < 250) (HAB : Hid (ab < w.heap.size)) (x2 : wr.cell? ⟨ab, ao + j * 3 + 2, none⟩ = some (.int .i64 x.n)) (HXB : Hid (∀ W, Below w.heap.size w W → EAt W ab (ao + j * 3) x)) (hi1 : (i : Int) < 2) (HK : Hid (K2 i o)) (t0 : (x.do_ == 0) = true)
    (hK : ∀ ⦃y2 y15 y16 y17 y18 y19 y20 y21 y46 y47 y48 y49 y50 y51 y52 y53 y54 y55 y56 y57 y58 y59 y60 y61 y62 y63 y64 y65 y67 y68 y69 y70 y71 y72 y73 y74 y75 y76 y77 y78 y79 y80 y81 y82 y83 y84 y85 y86 y87 y88 y89 y90 y91 y92 y93 y94 y95 y96 y97 y98 y99 y100 y101 y102 y103 y104 y105 y106 y107 y108 y109 y110 y111 y112 y113 y114 y115 y116 y117 y118 y119 y120 y121 y122 y123 y124 y125 y126 y127 y128 y129 y130 y131 y132 y133 y134 y135 y136 y137 y138 y139 y140 y141 y142 y143 y144 y145 y146 y147 y148 y149 y150 y151 y152 y153 y154 y155 y156 y157 y158 y159 y160 y161 y162 y163 y164 y165 y166 y167 y168 y169 y170 y171 y172 y173 y174 y175 y176 y177 y178 y179 y180 y181 y182 y183 y184 y185 y186 y187 y188 y189 y190 y191 y192 y193 y194 y195 y196 y197 y198 y199 y200 y201 y202 y203 y204 y205 y206 y207 y208 y209 y210 y211 y212 y213 y214 y215 y216 y217 y218 y219 y220 y221 y222 y223 y224 y225 y226 y227 y228 y229 y230 y231 y232 y233 y234 y235 y236 y237 y238 y239 y240 y241 y242 y243 y244 y245 y246 y247 y248 y249 y250 y251 y252 y253 y254 y255 : Value⦄ ⦃t2 : Nat⦄ ⦃gf : Nat → Nat⦄ ⦃af : Nat → ConV⦄ ⦃lf : Nat → Int⦄ ⦃vf : Nat → Value⦄ ⦃Sf : Nat → List MsgV⦄ ⦃wx : World⦄, t2 ≤ 3 * (j + 1) → Hid (LivF w wx bx bl bs bh gf af lf (hk af) vf Sf) → Hid (LivG (j + 1) af lf Sf) → K ⟨List.toArray (.slice (some ⟨ab, ao, none⟩) L.length c :: v1 :: y2 :: v3 :: v4 :: v5 :: v6 :: v7 :: .pointer (some ⟨bx, 0, none⟩) :: .pointer (some ⟨bl, 0, none⟩) :: .pointer (some ⟨bs, 0, none⟩) :: .pointer (some ⟨bh, 0, none⟩) :: .int .i64 ((t2 : Nat) : Int) :: .int .i64 (j : Int) :: .int .i64 (i : Int) :: y15 :: y16 :: y17 :: y18 :: y19 :: y20 :: y21 :: v22 :: v23 :: v24 :: v25 :: v26 :: v27 :: v28 :: v29 :: v30 :: v31 :: v32 :: v33 :: v34 :: v35 :: v36 :: v37 :: v38 :: v39 :: v40 :: v41 :: v42 :: v43 :: v44 :: v45 :: y46 :: y47 :: y48 :: y49 :: y50 :: y51 :: y52 :: y53 :: y54 :: y55 :: y56 :: y57 :: y58 :: y59 :: y60 :: y61 :: y62 :: y63 :: y64 :: y65 :: .int .i64 x.do_ :: y67 :: y68 :: y69 :: y70 :: y71 :: y72 :: y73 :: y74 :: y75 :: y76 :: y77 :: y78 :: y79 :: y80 :: y81 :: y82 :: y83 :: y84 :: y85 :: y86 :: y87 :: y88 :: y89 :: y90 :: y91 :: y92 :: y93 :: y94 :: y95 :: y96 :: y97 :: y98 :: y99 :: y100 :: y101 :: y102 :: y103 :: y104 :: y105 :: y106 :: y107 :: y108 :: y109 :: y110 :: y111 :: y112 :: y113 :: y114 :: y115 :: y116 :: y117 :: y118 :: y119 :: y120 :: y121 :: y122 :: y123 :: y124 :: y125 :: y126 :: y127 :: y128 :: y129 :: y130 :: y131 :: y132 :: y133 :: y134 :: y135 :: y136 :: y137 :: y138 :: y139 :: y140 :: y141 :: y142 :: y143 :: y144 :: y145 :: y146 :: y147 :: y148 :: y149 :: y150 :: y151 :: y152 :: y153 :: y154 :: y155 :: y156 :: y157 :: y158 :: y159 :: y160 :: y161 :: y162 :: y163 :: y164 :: y165 :: y166 :: y167 :: y168 :: y169 :: y170 :: y171 :: y172 :: y173 :: y174 :: y175 :: y176 :: y177 :: y178 :: y179 :: y180 :: y181 :: y182 :: y183 :: y184 :: y185 :: y186 :: y187 :: y188 :: y189 :: y190 :: y191 :: y192 :: y193 :: y194 :: y195 :: y196 :: y197 :: y198 :: y199 :: y200 :: y201 :: y202 :: y203 :: y204 :: y205 :: y206 :: y207 :: y208 :: y209 :: y210 :: y211 :: y212 :: y213 :: y214 :: y215 :: y216 :: y217 :: y218 :: y219 :: y220 :: y221 :: y222 :: y223 :: y224 :: y225 :: y226 :: y227 :: y228 :: y229 :: y230 :: y231 :: y232 :: y233 :: y234 :: y235 :: y236 :: y237 :: y238 :: y239 :: y240 :: y241 :: y242 :: y243 :: y244 :: y245 :: y246 :: y247 :: y248 :: y249 :: y250 :: y251 :: y252 :: y253 :: y254 :: y255 :: []), []⟩ wx)
    (hC : ∀ ⦃y2 y15 y16 y17 y18 y19 y20 y21 y46 y47 y48 y49 y50 y51 y52 y53 y54 y55 y56 y57 y58 y59 y60 y61 y62 y63 y64 y65 y67 y68 y69 y70 y71 y72 y73 y74 y75 y76 y77 y78 y79 y80 y81 y82 y83 y84 y85 y86 y87 y88 y89 y90 y91 y92 y93 y94 y95 y96 y97 y98 y99 y100 y101 y102 y103 y104 y105 y106 y107 y108 y109 y110 y111 y112 y113 y114 y115 y116 y117 y118 y119 y120 y121 y122 y123 y124 y125 y126 y127 y128 y129 y130 y131 y132 y133 y134 y135 y136 y137 y138 y139 y140 y141 y142 y143 y144 y145 y146 y147 y148 y149 y150 y151 y152 y153 y154 y155 y156 y157 y158 y159 y160 y161 y162 y163 y164 y165 y166 y167 y168 y169 y170 y171 y172 y173 y174 y175 y176 y177 y178 y179 y180 y181 y182 y183 y184 y185 y186 y187 y188 y189 y190 y191 y192 y193 y194 y195 y196 y197 y198 y199 y200 y201 y202 y203 y204 y205 y206 y207 y208 y209 y210 y211 y212 y213 y214 y215 y216 y217 y218 y219 y220 y221 y222 y223 y224 y225 y226 y227 y228 y229 y230 y231 y232 y233 y234 y235 y236 y237 y238 y239 y240 y241 y242 y243 y244 y245 y246 y247 y248 y249 y250 y251 y252 y253 y254 y255 : Value⦄ ⦃t2 : Nat⦄ ⦃gf : Nat → Nat⦄ ⦃af : Nat → ConV⦄ ⦃lf : Nat → Int⦄ ⦃vf : Nat → Value⦄ ⦃Sf : Nat → List MsgV⦄ ⦃wx : World⦄, t2 ≤ 3 * (j + 1) → Hid (LivF w wx bx bl bs bh gf af lf (hk af) vf Sf) → Hid (LivG (j + 1) af lf Sf) → KC ⟨List.toArray (.slice (some ⟨ab, ao, none⟩) L.length c :: v1 :: y2 :: v3 :: v4 :: v5 :: v6 :: v7 :: .pointer (some ⟨bx, 0, none⟩) :: .pointer (some ⟨bl, 0, none⟩) :: .pointer (some ⟨bs, 0, none⟩) :: .pointer (some ⟨bh, 0, none⟩) :: .int .i64 ((t2 : Nat) : Int) :: .int .i64 (j : Int) :: .int .i64 (i : Int) :: y15 :: y16 :: y17 :: y18 :: y19 :: y20 :: y21 :: v22 :: v23 :: v24 :: v25 :: v26 :: v27 :: v28 :: v29 :: v30 :: v31 :: v32 :: v33 :: v34 :: v35 :: v36 :: v37 :: v38 :: v39 :: v40 :: v41 :: v42 :: v43 :: v44 :: v45 :: y46 :: y47 :: y48 :: y49 :: y50 :: y51 :: y52 :: y53 :: y54 :: y55 :: y56 :: y57 :: y58 :: y59 :: y60 :: y61 :: y62 :: y63 :: y64 :: y65 :: .int .i64 x.do_ :: y67 :: y68 :: y69 :: y70 :: y71 :: y72 :: y73 :: y74 :: y75 :: y76 :: y77 :: y78 :: y79 :: y80 :: y81 :: y82 :: y83 :: y84 :: y85 :: y86 :: y87 :: y88 :: y89 :: y90 :: y91 :: y92 :: y93 :: y94 :: y95 :: y96 :: y97 :: y98 :: y99 :: y100 :: y101 :: y102 :: y103 :: y104 :: y105 :: y106 :: y107 :: y108 :: y109 :: y110 :: y111 :: y112 :: y113 :: y114 :: y115 :: y116 :: y117 :: y118 :: y119 :: y120 :: y121 :: y122 :: y123 :: y124 :: y125 :: y126 :: y127 :: y128 :: y129 :: y130 :: y131 :: y132 :: y133 :: y134 :: y135 :: y136 :: y137 :: y138 :: y139 :: y140 :: y141 :: y142 :: y143 :: y144 :: y145 :: y146 :: y147 :: y148 :: y149 :: y150 :: y151 :: y152 :: y153 :: y154 :: y155 :: y156 :: y157 :: y158 :: y159 :: y160 :: y161 :: y162 :: y163 :: y164 :: y165 :: y166 :: y167 :: y168 :: y169 :: y170 :: y171 :: y172 :: y173 :: y174 :: y175 :: y176 :: y177 :: y178 :: y179 :: y180 :: y181 :: y182 :: y183 :: y184 :: y185 :: y186 :: y187 :: y188 :: y189 :: y190 :: y191 :: y192 :: y193 :: y194 :: y195 :: y196 :: y197 :: y198 :: y199 :: y200 :: y201 :: y202 :: y203 :: y204 :: y205 :: y206 :: y207 :: y208 :: y209 :: y210 :: y211 :: y212 :: y213 :: y214 :: y215 :: y216 :: y217 :: y218 :: y219 :: y220 :: y221 :: y222 :: y223 :: y224 :: y225 :: y226 :: y227 :: y228 :: y229 :: y230 :: y231 :: y232 :: y233 :: y234 :: y235 :: y236 :: y237 :: y238 :: y239 :: y240 :: y241 :: y242 :: y243 :: y244 :: y245 :: y246 :: y247 :: y248 :: y249 :: y250 :: y251 :: y252 :: y253 :: y254 :: y255 :: []), []⟩ wx) :
    Code.wp Try.prog ((Try.f4.body.bind (findB 2)).getD .skip) (Exit.then K (Exit.inBlock 1 (Exit.then KC (noT Q)))) ⟨List.toArray (.slice (some ⟨ab, ao, none⟩) L.length c :: v1 :: v2 :: v3 :: v4 :: v5 :: v6 :: v7 :: .pointer (some ⟨bx, 0, none⟩) :: .pointer (some ⟨bl, 0, none⟩) :: .pointer (some ⟨bs, 0, none⟩) :: .pointer (some ⟨bh, 0, none⟩) :: .int .i64 (t : Int) :: .int .i64 (j : Int) :: .int .i64 (i : Int) :: v15 :: v16 :: v17 :: v18 :: v19 :: v20 :: v21 :: v22 :: v23 :: v24 :: v25 :: v26 :: v27 :: v28 :: v29 :: v30 :: v31 :: v32 :: v33 :: v34 :: v35 :: v36 :: v37 :: v38 :: v39 :: v40 :: v41 :: v42 :: v43 :: v44 :: v45 :: v46 :: v47 :: v48 :: v49 :: v50 :: v51 :: v52 :: v53 :: v54 :: v55 :: v56 :: v57 :: v58 :: v59 :: v60 :: v61 :: v62 :: v63 :: v64 :: v65 :: .int .i64 x.do_ :: v67 :: v68 :: v69 :: v70 :: v71 :: v72 :: v73 :: v74 :: v75 :: v76 :: v77 :: v78 :: v79 :: v80 :: v81 :: v82 :: v83 :: v84 :: v85 :: v86 :: v87 :: v88 :: v89 :: v90 :: v91 :: v92 :: v93 :: v94 :: v95 :: v96 :: v97 :: v98 :: v99 :: v100 :: v101 :: v102 :: v103 :: v104 :: v105 :: v106 :: v107 :: v108 :: v109 :: v110 :: v111 :: v112 :: v113 :: v114 :: v115 :: v116 :: v117 :: v118 :: v119 :: v120 :: v121 :: v122 :: v123 :: v124 :: v125 :: v126 :: v127 :: v128 :: v129 :: v130 :: v131 :: v132 :: v133 :: v134 :: v135 :: v136 :: v137 :: v138 :: v139 :: v140 :: v141 :: v142 :: v143 :: v144 :: v145 :: v146 :: v147 :: v148 :: v149 :: v150 :: v151 :: v152 :: v153 :: v154 :: v155 :: v156 :: v157 :: v158 :: v159 :: v160 :: v161 :: v162 :: v163 :: v164 :: v165 :: v166 :: v167 :: v168 :: v169 :: v170 :: v171 :: v172 :: v173 :: v174 :: v175 :: v176 :: v177 :: v178 :: v179 :: v180 :: v181 :: v182 :: v183 :: v184 :: v185 :: v186 :: v187 :: v188 :: v189 :: v190 :: v191 :: v192 :: v193 :: v194 :: v195 :: v196 :: v197 :: v198 :: v199 :: v200 :: v201 :: v202 :: v203 :: v204 :: v205 :: v206 :: v207 :: v208 :: v209 :: v210 :: v211 :: v212 :: v213 :: v214 :: v215 :: v216 :: v217 :: v218 :: v219 :: v220 :: v221 :: v222 :: v223 :: v224 :: v225 :: v226 :: v227 :: v228 :: v229 :: v230 :: v231 :: v232 :: v233 :: v234 :: v235 :: v236 :: v237 :: v238 :: v239 :: v240 :: v241 :: v242 :: v243 :: v244 :: v245 :: v246 :: v247 :: v248 :: v249 :: v250 :: v251 :: v252 :: v253 :: v254 :: v255 :: []), []⟩ wr := by
  have HKK := Lib.hid hK
  have HCC := Lib.hid hC
  clear hK hC
  conv => arg 2; whnf
  let _QF : Exit → Act → World → Prop := bodyPost Try.prog Try.f4 fun _ _ => True
  go_cut [12] (fun s12 wx => ∃ (t' : Nat) (gf : Nat → Nat) (af : Nat → ConV) (lf : Nat → Int) (vf : Nat → Value) (Sf : Nat → List MsgV), s12 = .int .i64 t' ∧ t' ≤ 3 * (j + 1) ∧ Hid (LivF w wx bx bl bs bh gf af lf (hk af) vf Sf) ∧ Hid (LivG (j + 1) af lf Sf))
  case rest =>
    obtain ⟨t2, gf2, af2, lf2, vf2, Sf2, rfl, h1, h2, h3⟩ := hcut
    exact HKK.out h1 h2 h3
  case first =>
    obtain ⟨d, hd⟩ : ∃ d, d = x.n % 8 := ⟨_, rfl⟩
    have hd7 : bits .and .i64 x.n 7 = d := by rw [i64_and7, hd]
    have HD := Lib.hid (show 0 ≤ d ∧ d ≤ 8 by omega)
    have HH := Lib.hid (HI.out i o HK.out)
    have hs1 : (af i).said < 1073741824 := by have := HH.out.said; omega
    obtain ⟨m, hm⟩ : ∃ m, m = (af i).hm d := ⟨_, rfl⟩
    obtain ⟨c', hc'⟩ : ∃ c', c' = ({ af i with said := (af i).said + 1 } : ConV) := ⟨_, rfl⟩
    have H1 := Lib.hid (fun V (h : PAt V (gf i) (af i)) => phello_any d HH.out.ok h)
    have HOK := hello_okC HH.out.ok d
    rw [show (af i).hello d = (c', m, 0) by unfold ConV.hello; rw [if_pos HD.out, if_neg (by omega), hm, hc']] at H1 HOK
    have HIN : Hid (LivG (j + 1) (upd af i c') lf (upd Sf i (Sf i ++ [m]))) := Lib.hid (HI.out.said_ HK.out (HH.out.said_ HOK (by rw [hc']) (by rw [hc']; show (af i).said + 1 ≤ _; omega) (by rw [hc']) m (by rw [hm]; exact HH.out.life) (by rw [hm]; show 0 < 4294967296; omega)))
    have HKN : Hid (hk (upd af i c') = hk af) := Lib.hid (hk_same (by rw [hc']) (by rw [hc']))
    have HSL : Hid ((Sf i).length ≤ 250) := Lib.hid (Nat.le_trans HH.out.len hj2)
    have q1 : (m.life != lf i) = false := by rw [hm]; show ((af i).life != lf i) = false; rw [HH.out.life]; simp
    clear hd hm hc' hs1 HOK
    have u0 := HL.out.cx HK.out
    have HZN : Hid (MBox (wr.alloc (.cells #[.int .i64 0, .int .i64 0, .int .i64 0, .int .i64 0, .int .i64 0, .int .u32 0, .int .i64 0, .string ⟨#[]⟩, .int .i64 0, .int .i64 0, .bool false] 34)).drew wr.heap.size zeroM) := Lib.hid (MBox.new wr zeroM)
    have HNZ : Hid (¬ One (gf i) wr.heap.size) := Lib.hid (fun e => by have h1 := CAt.lt (HL.out.p HK.out); have h2 : wr.heap.size = gf i := e; omega)
    have HN0 : Hid ((vf 0).ownBlock ≠ some wr.heap.size) := Lib.hid (HL.out.not (i := 0) (o := 1) (.inl ⟨rfl, rfl⟩))
    have HN1 : Hid ((vf 1).ownBlock ≠ some wr.heap.size) := Lib.hid (HL.out.not (i := 1) (o := 0) (.inr ⟨rfl, rfl⟩))
    have HNS : Hid (w.heap.size ≤ wr.heap.size) := Lib.hid HL.out.low.size
    have HLD := Lib.hid HL.out.drew
    have HLZ : Hid (LivF w (wr.alloc (.cells #[.int .i64 0, .int .i64 0, .int .i64 0, .int .i64 0, .int .i64 0, .int .u32 0, .int .i64 0, .string ⟨#[]⟩, .int .i64 0, .int .i64 0, .bool false] 34)).drew bx bl bs bh gf af lf (hk af) vf Sf) := Lib.hid (HL.out.later ((Below.refl _ _).alloc (Nat.le_refl _) _)).drew
    have KS : Hid (∀ W, (W.cell? ⟨bx, i, none⟩ = some (ptrV (gf i)) ∧ W.cell? ⟨ab, ao + j * 3 + 2, none⟩ = some (.int .i64 x.n)) → (storeM W wr.heap.size m).cell? ⟨bx, i, none⟩ = some (ptrV (gf i)) ∧ (storeM W wr.heap.size m).cell? ⟨ab, ao + j * 3 + 2, none⟩ = some (.int .i64 x.n)) := Lib.hid (fun W h => by
      have n1 : bx ≠ wr.heap.size := by have := HL.out.ltx; omega
      have n2 : ab ≠ wr.heap.size := by have := HAB.out; have := HL.out.low.size; omega
      rw [storeM_cell W _ m n1, storeM_cell W _ m n2]
      exact h)
    go_upto_region 17 with fail
    go_cut [15, 16] (fun s15 s16 wx => ∃ q, s15 = ptrV q ∧ s16 = .int .i64 0 ∧ MBox wx q m ∧ LivF w wx bx bl bs bh gf (upd af i c') lf (hk af) vf Sf)
    case first =>
      go_region_held3 (fun w' => w'.cell? ⟨bx, i, none⟩ = some (ptrV (gf i)) ∧ w'.cell? ⟨ab, ao + j * 3 + 2, none⟩ = some (.int .i64 x.n)) (first | (with_reducible exact rz) | go_keep) (first
        | (go_at_call 14; (with_reducible refine (H1.out _ ?_).mono ?_); (with_reducible exact HLD.out.p HK.out); rintro e w4 ⟨rfl, hp4, hw4⟩; have L4 : Hid (LivF w w4 bx bl bs bh gf (upd af i c') lf (hk af) vf Sf) := Lib.hid (HLD.out.con HK.out hp4 hw4); have LA : Hid (MBox (w4.alloc (mbox m)) w4.heap.size m ∧ LivF w (w4.alloc (mbox m)) bx bl bs bh gf (upd af i c') lf (hk af) vf Sf) := Lib.hid ⟨MBox.new w4 m, L4.out.later ((Below.refl _ _).alloc (Nat.le_refl _) _)⟩; have r1 : w4.cell? ⟨bx, i, none⟩ = some (ptrV (gf i)) := L4.out.cx HK.out; have r2 := (HXB.out w4 L4.out.low).2.2)
        | (go_at_call 14; (with_reducible refine (H1.out _ ?_).mono ?_); (with_reducible exact HLZ.out.p HK.out); rintro e w4 ⟨rfl, hp4, hw4⟩; have L4 : Hid (LivF w w4 bx bl bs bh gf (upd af i c') lf (hk af) vf Sf) := Lib.hid (HLZ.out.con HK.out hp4 hw4); have r1 : w4.cell? ⟨bx, i, none⟩ = some (ptrV (gf i)) := L4.out.cx HK.out; have r2 := (HXB.out w4 L4.out.low).2.2; have hz : MBox w4 wr.heap.size zeroM := HZN.out.way' hw4 HNZ.out; have LA : Hid (MBox (storeM w4 wr.heap.size m) wr.heap.size m ∧ LivF w (storeM w4 wr.heap.size m) bx bl bs bh gf (upd af i c') lf (hk af) vf Sf) := Lib.hid ⟨storeM_box hz m, LivF.kpM L4.out hz HN0.out HN1.out HNS.out m⟩; have rz := KS.out w4 ⟨r1, r2⟩; unfold storeM at rz; obtain ⟨z0, z1, z2, z3, z4, z5, z6, z7, z8, z9, z10⟩ := hz.all; have f0 := hz.free 0; have f1 := hz.free 1; have f2 := hz.free 2; have f3 := hz.free 3; have f4 := hz.free 4; have f5 := hz.free 5; have f6 := hz.free 6; have f7 := hz.free 7; have f8 := hz.free 8; have f9 := hz.free 9; have f10 := hz.free 10))
      all_goals
        go_wp2
        go_meet
        refine ⟨_, rfl, rfl, ?_, ?_⟩
        · exact LA.out.1
        · exact LA.out.2
    case rest =>
      obtain ⟨q, rfl, rfl, hm5, hl5⟩ := hcut
      rename_i wc
      have HM5 := Lib.hid hm5
      have HL5 := Lib.hid hl5
      clear hm5 hl5 HLD HLZ HZN HNZ HN0 HN1 HNS H1 KS u0 x2 HL HI HH
      have m1 := HM5.out.c1
      have n1 := HL5.out.cl HK.out
      go_upto_region 18 with fail
      go_quiet (fail)
      have HL6 := Lib.hid (HL5.out.drewN nq)
      have HM6 := Lib.hid (HM5.out.drewN nq)
      clear m1 n1 q1 HL5 HM5 hd7
      generalize wc.drewN nq = w6 at HL6 HM6 ⊢
      obtain ⟨A5, k5, hv5, hf5⟩ := own_form (HL6.out.row HK.out)
      have hs6 := HL6.out.cs HK.out
      have f6 := HL6.out.fs i
      rw [hv5] at hs6
      obtain ⟨m0, m1, m2, m3, m4, m5, m6, m7, m8, m9, m10⟩ := HM6.out.all
      have HB7 : Hid (Below w6.heap.size w6 (w6.alloc (mbox m))) := Lib.hid ((Below.refl _ _).alloc (Nat.le_refl _) _)
      have HL7 := Lib.hid ((HL6.out.later HB7.out).drew)
      have HROW : Hid (RowE ElemM w (w6.alloc (mbox m)).drew (.slice A5 (Sf i).length k5) (Sf i)) := Lib.hid (by rw [← hv5]; exact ⟨HL7.out.row HK.out, HL7.out.low⟩)
      have HEL : Hid (El ElemM (w6.alloc (.cells m.cells 34)).drew (w6.heap.size + 1) (some ⟨w6.heap.size, 0, none⟩) [m]) := Lib.hid (El.drew (El.lit (E := ElemM) w6 [m] _ _ (by simp [ecells, ElemM])))
      have hz : (Sf i).length + [m].length ≤ 100000000000 := by have := HSL.out; simp; omega
      have hs7 := HL7.out.cs HK.out
      rw [hv5] at hs7
      have HV5 := Lib.hid hv5
      clear hv5
      go_upto_region 20 with fail
      go_region_law
        (first
          | (refine step_rowA (E := ElemM) rfl (.tmp 95) (.tmp 97) rfl rfl HROW.out [m] rfl rfl HEL.out hz ?_; intro A8 k8 w8 S8 HS8 hR8 hk8 hg8 hb8; have HG8 : Hid ((w6.alloc (mbox m)).drew.grownBy w8 (vf i).ownBlock) := Lib.hid (by rw [HV5.out]; exact hg8); have HB8 := Lib.hid hb8; have HR8 := Lib.hid hR8; clear hg8 hb8 hR8; obtain ⟨hs8, f8⟩ := HL7.out.grownS HK.out HG8.out))
      all_goals
        go_wp2
        go_meet
        have e := HS8.out
        subst e
        exact ⟨t, _, _, _, _, _, rfl, by omega, Lib.hid (by rw [HKN.out]; exact HL7.out.grow HK.out HR8.out HG8.out (by rw [HV5.out]; exact HB8.out)), HIN⟩
end Go.Proofs.Ytfikdocpcepmmaa
