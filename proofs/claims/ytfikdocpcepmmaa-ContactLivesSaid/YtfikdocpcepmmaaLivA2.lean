/- ContactLives: the switch's arm 2, as a theorem of its own. (Written by wip/tools/genclb.py.) -/
import Derived.Test.YtfikdocpcepmmaaLivB
namespace Go.Proofs.Ytfikdocpcepmmaa
open Go.RowKit Go.Sort

set_option maxRecDepth 100000 in
set_option maxHeartbeats 16000000 in
theorem clives_arm2 {c j t i o ab ao bx bl bs bh : Nat} {L : List EvtV} {w wr : World} {x : EvtV} {gf : Nat → Nat} {af : Nat → ConV} {lf : Nat → Int} {vf : Nat → Value} {Sf : Nat → List MsgV} {K KC : Act → World → Prop} {Q : Exit → Act → World → Prop}
    {v1 v2 v3 v4 v5 v6 v7 v15 v16 v17 v18 v19 v20 v21 v22 v23 v24 v25 v26 v27 v28 v29 v30 v31 v32 v33 v34 v35 v36 v37 v38 v39 v40 v41 v42 v43 v44 v45 v46 v47 v48 v49 v50 v51 v52 v53 v54 v55 v56 v57 v58 v59 v60 v61 v62 v63 v64 v65 v67 v68 v69 v70 v71 v72 v73 v74 v75 v76 v77 v78 v79 v80 v81 v82 v83 v84 v85 v86 v87 v88 v89 v90 v91 v92 v93 v94 v95 v96 v97 v98 v99 v100 v101 v102 v103 v104 v105 v106 v107 v108 v109 v110 v111 v112 v113 v114 v115 v116 v117 v118 v119 v120 v121 v122 v123 v124 v125 v126 v127 v128 v129 v130 v131 v132 v133 v134 v135 v136 v137 v138 v139 v140 v141 v142 v143 v144 v145 v146 v147 v148 v149 v150 v151 v152 v153 v154 v155 v156 v157 v158 v159 v160 v161 v162 v163 v164 v165 v166 v167 v168 v169 v170 v171 v172 v173 v174 v175 v176 v177 v178 v179 v180 v181 v182 v183 v184 v185 v186 v187 v188 v189 v190 v191 v192 v193 v194 v195 v196 v197 v198 v199 v200 v201 v202 v203 v204 v205 v206 v207 v208 v209 v210 v211 v212 v213 v214 v215 v216 v217 v218 v219 v220 v221 v222 v223 v224 v225 v226 v227 v228 v229 v230 v231 v232 v233 v234 v235 v236 v237 v238 v239 v240 v241 v242 v243 v244 v245 v246 v247 v248 v249 v250 v251 v252 v253 v254 v255 : Value}
    (hj2 : j ≤ 250) (ht : t ≤ 3 * j) (HL : Hid (LivF w wr bx bl bs bh gf af lf (hk af) vf Sf)) (HI : Hid (LivG j af lf Sf)) (hlt : j < L.length) (x2 : wr.cell? ⟨ab, ao + j * 3 + 2, none⟩ = some (.int .i64 x.n)) (HXB : Hid (∀ W, Below w.heap.size w W → EAt W ab (ao + j * 3) x)) (hi1 : (i : Int) < 2) (ho1 : (o : Int) < 2) (HK : Hid (K2 i o)) (HKO : Hid (K2 o i)) (H1O : Hid ((1 : Int) - (i : Int) = (o : Int))) (t0 : (x.do_ == 0) = false) (t1 : (x.do_ == 1) = false) (t2 : (x.do_ == 2) = true)
    (hK : ∀ ⦃y2 y15 y16 y17 y18 y19 y20 y21 y46 y47 y48 y49 y50 y51 y52 y53 y54 y55 y56 y57 y58 y59 y60 y61 y62 y63 y64 y65 y67 y68 y69 y70 y71 y72 y73 y74 y75 y76 y77 y78 y79 y80 y81 y82 y83 y84 y85 y86 y87 y88 y89 y90 y91 y92 y93 y94 y95 y96 y97 y98 y99 y100 y101 y102 y103 y104 y105 y106 y107 y108 y109 y110 y111 y112 y113 y114 y115 y116 y117 y118 y119 y120 y121 y122 y123 y124 y125 y126 y127 y128 y129 y130 y131 y132 y133 y134 y135 y136 y137 y138 y139 y140 y141 y142 y143 y144 y145 y146 y147 y148 y149 y150 y151 y152 y153 y154 y155 y156 y157 y158 y159 y160 y161 y162 y163 y164 y165 y166 y167 y168 y169 y170 y171 y172 y173 y174 y175 y176 y177 y178 y179 y180 y181 y182 y183 y184 y185 y186 y187 y188 y189 y190 y191 y192 y193 y194 y195 y196 y197 y198 y199 y200 y201 y202 y203 y204 y205 y206 y207 y208 y209 y210 y211 y212 y213 y214 y215 y216 y217 y218 y219 y220 y221 y222 y223 y224 y225 y226 y227 y228 y229 y230 y231 y232 y233 y234 y235 y236 y237 y238 y239 y240 y241 y242 y243 y244 y245 y246 y247 y248 y249 y250 y251 y252 y253 y254 y255 : Value⦄ ⦃t2 : Nat⦄ ⦃gf : Nat → Nat⦄ ⦃af : Nat → ConV⦄ ⦃lf : Nat → Int⦄ ⦃vf : Nat → Value⦄ ⦃Sf : Nat → List MsgV⦄ ⦃wx : World⦄, t2 ≤ 3 * (j + 1) → Hid (LivF w wx bx bl bs bh gf af lf (hk af) vf Sf) → Hid (LivG (j + 1) af lf Sf) → K ⟨List.toArray (.slice (some ⟨ab, ao, none⟩) L.length c :: v1 :: y2 :: v3 :: v4 :: v5 :: v6 :: v7 :: .pointer (some ⟨bx, 0, none⟩) :: .pointer (some ⟨bl, 0, none⟩) :: .pointer (some ⟨bs, 0, none⟩) :: .pointer (some ⟨bh, 0, none⟩) :: .int .i64 ((t2 : Nat) : Int) :: .int .i64 (j : Int) :: .int .i64 (i : Int) :: y15 :: y16 :: y17 :: y18 :: y19 :: y20 :: y21 :: v22 :: v23 :: v24 :: v25 :: v26 :: v27 :: v28 :: v29 :: v30 :: v31 :: v32 :: v33 :: v34 :: v35 :: v36 :: v37 :: v38 :: v39 :: v40 :: v41 :: v42 :: v43 :: v44 :: v45 :: y46 :: y47 :: y48 :: y49 :: y50 :: y51 :: y52 :: y53 :: y54 :: y55 :: y56 :: y57 :: y58 :: y59 :: y60 :: y61 :: y62 :: y63 :: y64 :: y65 :: .int .i64 x.do_ :: y67 :: y68 :: y69 :: y70 :: y71 :: y72 :: y73 :: y74 :: y75 :: y76 :: y77 :: y78 :: y79 :: y80 :: y81 :: y82 :: y83 :: y84 :: y85 :: y86 :: y87 :: y88 :: y89 :: y90 :: y91 :: y92 :: y93 :: y94 :: y95 :: y96 :: y97 :: y98 :: y99 :: y100 :: y101 :: y102 :: y103 :: y104 :: y105 :: y106 :: y107 :: y108 :: y109 :: y110 :: y111 :: y112 :: y113 :: y114 :: y115 :: y116 :: y117 :: y118 :: y119 :: y120 :: y121 :: y122 :: y123 :: y124 :: y125 :: y126 :: y127 :: y128 :: y129 :: y130 :: y131 :: y132 :: y133 :: y134 :: y135 :: y136 :: y137 :: y138 :: y139 :: y140 :: y141 :: y142 :: y143 :: y144 :: y145 :: y146 :: y147 :: y148 :: y149 :: y150 :: y151 :: y152 :: y153 :: y154 :: y155 :: y156 :: y157 :: y158 :: y159 :: y160 :: y161 :: y162 :: y163 :: y164 :: y165 :: y166 :: y167 :: y168 :: y169 :: y170 :: y171 :: y172 :: y173 :: y174 :: y175 :: y176 :: y177 :: y178 :: y179 :: y180 :: y181 :: y182 :: y183 :: y184 :: y185 :: y186 :: y187 :: y188 :: y189 :: y190 :: y191 :: y192 :: y193 :: y194 :: y195 :: y196 :: y197 :: y198 :: y199 :: y200 :: y201 :: y202 :: y203 :: y204 :: y205 :: y206 :: y207 :: y208 :: y209 :: y210 :: y211 :: y212 :: y213 :: y214 :: y215 :: y216 :: y217 :: y218 :: y219 :: y220 :: y221 :: y222 :: y223 :: y224 :: y225 :: y226 :: y227 :: y228 :: y229 :: y230 :: y231 :: y232 :: y233 :: y234 :: y235 :: y236 :: y237 :: y238 :: y239 :: y240 :: y241 :: y242 :: y243 :: y244 :: y245 :: y246 :: y247 :: y248 :: y249 :: y250 :: y251 :: y252 :: y253 :: y254 :: y255 :: []), []⟩ wx)
    (hC : ∀ ⦃y2 y15 y16 y17 y18 y19 y20 y21 y46 y47 y48 y49 y50 y51 y52 y53 y54 y55 y56 y57 y58 y59 y60 y61 y62 y63 y64 y65 y67 y68 y69 y70 y71 y72 y73 y74 y75 y76 y77 y78 y79 y80 y81 y82 y83 y84 y85 y86 y87 y88 y89 y90 y91 y92 y93 y94 y95 y96 y97 y98 y99 y100 y101 y102 y103 y104 y105 y106 y107 y108 y109 y110 y111 y112 y113 y114 y115 y116 y117 y118 y119 y120 y121 y122 y123 y124 y125 y126 y127 y128 y129 y130 y131 y132 y133 y134 y135 y136 y137 y138 y139 y140 y141 y142 y143 y144 y145 y146 y147 y148 y149 y150 y151 y152 y153 y154 y155 y156 y157 y158 y159 y160 y161 y162 y163 y164 y165 y166 y167 y168 y169 y170 y171 y172 y173 y174 y175 y176 y177 y178 y179 y180 y181 y182 y183 y184 y185 y186 y187 y188 y189 y190 y191 y192 y193 y194 y195 y196 y197 y198 y199 y200 y201 y202 y203 y204 y205 y206 y207 y208 y209 y210 y211 y212 y213 y214 y215 y216 y217 y218 y219 y220 y221 y222 y223 y224 y225 y226 y227 y228 y229 y230 y231 y232 y233 y234 y235 y236 y237 y238 y239 y240 y241 y242 y243 y244 y245 y246 y247 y248 y249 y250 y251 y252 y253 y254 y255 : Value⦄ ⦃t2 : Nat⦄ ⦃gf : Nat → Nat⦄ ⦃af : Nat → ConV⦄ ⦃lf : Nat → Int⦄ ⦃vf : Nat → Value⦄ ⦃Sf : Nat → List MsgV⦄ ⦃wx : World⦄, t2 ≤ 3 * (j + 1) → Hid (LivF w wx bx bl bs bh gf af lf (hk af) vf Sf) → Hid (LivG (j + 1) af lf Sf) → KC ⟨List.toArray (.slice (some ⟨ab, ao, none⟩) L.length c :: v1 :: y2 :: v3 :: v4 :: v5 :: v6 :: v7 :: .pointer (some ⟨bx, 0, none⟩) :: .pointer (some ⟨bl, 0, none⟩) :: .pointer (some ⟨bs, 0, none⟩) :: .pointer (some ⟨bh, 0, none⟩) :: .int .i64 ((t2 : Nat) : Int) :: .int .i64 (j : Int) :: .int .i64 (i : Int) :: y15 :: y16 :: y17 :: y18 :: y19 :: y20 :: y21 :: v22 :: v23 :: v24 :: v25 :: v26 :: v27 :: v28 :: v29 :: v30 :: v31 :: v32 :: v33 :: v34 :: v35 :: v36 :: v37 :: v38 :: v39 :: v40 :: v41 :: v42 :: v43 :: v44 :: v45 :: y46 :: y47 :: y48 :: y49 :: y50 :: y51 :: y52 :: y53 :: y54 :: y55 :: y56 :: y57 :: y58 :: y59 :: y60 :: y61 :: y62 :: y63 :: y64 :: y65 :: .int .i64 x.do_ :: y67 :: y68 :: y69 :: y70 :: y71 :: y72 :: y73 :: y74 :: y75 :: y76 :: y77 :: y78 :: y79 :: y80 :: y81 :: y82 :: y83 :: y84 :: y85 :: y86 :: y87 :: y88 :: y89 :: y90 :: y91 :: y92 :: y93 :: y94 :: y95 :: y96 :: y97 :: y98 :: y99 :: y100 :: y101 :: y102 :: y103 :: y104 :: y105 :: y106 :: y107 :: y108 :: y109 :: y110 :: y111 :: y112 :: y113 :: y114 :: y115 :: y116 :: y117 :: y118 :: y119 :: y120 :: y121 :: y122 :: y123 :: y124 :: y125 :: y126 :: y127 :: y128 :: y129 :: y130 :: y131 :: y132 :: y133 :: y134 :: y135 :: y136 :: y137 :: y138 :: y139 :: y140 :: y141 :: y142 :: y143 :: y144 :: y145 :: y146 :: y147 :: y148 :: y149 :: y150 :: y151 :: y152 :: y153 :: y154 :: y155 :: y156 :: y157 :: y158 :: y159 :: y160 :: y161 :: y162 :: y163 :: y164 :: y165 :: y166 :: y167 :: y168 :: y169 :: y170 :: y171 :: y172 :: y173 :: y174 :: y175 :: y176 :: y177 :: y178 :: y179 :: y180 :: y181 :: y182 :: y183 :: y184 :: y185 :: y186 :: y187 :: y188 :: y189 :: y190 :: y191 :: y192 :: y193 :: y194 :: y195 :: y196 :: y197 :: y198 :: y199 :: y200 :: y201 :: y202 :: y203 :: y204 :: y205 :: y206 :: y207 :: y208 :: y209 :: y210 :: y211 :: y212 :: y213 :: y214 :: y215 :: y216 :: y217 :: y218 :: y219 :: y220 :: y221 :: y222 :: y223 :: y224 :: y225 :: y226 :: y227 :: y228 :: y229 :: y230 :: y231 :: y232 :: y233 :: y234 :: y235 :: y236 :: y237 :: y238 :: y239 :: y240 :: y241 :: y242 :: y243 :: y244 :: y245 :: y246 :: y247 :: y248 :: y249 :: y250 :: y251 :: y252 :: y253 :: y254 :: y255 :: []), []⟩ wx) :
    Code.wp Try.prog ((Try.f4.body.bind (findB 2)).getD .skip) (Exit.then K (Exit.inBlock 1 (Exit.then KC (noT Q)))) ⟨List.toArray (.slice (some ⟨ab, ao, none⟩) L.length c :: v1 :: v2 :: v3 :: v4 :: v5 :: v6 :: v7 :: .pointer (some ⟨bx, 0, none⟩) :: .pointer (some ⟨bl, 0, none⟩) :: .pointer (some ⟨bs, 0, none⟩) :: .pointer (some ⟨bh, 0, none⟩) :: .int .i64 (t : Int) :: .int .i64 (j : Int) :: .int .i64 (i : Int) :: v15 :: v16 :: v17 :: v18 :: v19 :: v20 :: v21 :: v22 :: v23 :: v24 :: v25 :: v26 :: v27 :: v28 :: v29 :: v30 :: v31 :: v32 :: v33 :: v34 :: v35 :: v36 :: v37 :: v38 :: v39 :: v40 :: v41 :: v42 :: v43 :: v44 :: v45 :: v46 :: v47 :: v48 :: v49 :: v50 :: v51 :: v52 :: v53 :: v54 :: v55 :: v56 :: v57 :: v58 :: v59 :: v60 :: v61 :: v62 :: v63 :: v64 :: v65 :: .int .i64 x.do_ :: v67 :: v68 :: v69 :: v70 :: v71 :: v72 :: v73 :: v74 :: v75 :: v76 :: v77 :: v78 :: v79 :: v80 :: v81 :: v82 :: v83 :: v84 :: v85 :: v86 :: v87 :: v88 :: v89 :: v90 :: v91 :: v92 :: v93 :: v94 :: v95 :: v96 :: v97 :: v98 :: v99 :: v100 :: v101 :: v102 :: v103 :: v104 :: v105 :: v106 :: v107 :: v108 :: v109 :: v110 :: v111 :: v112 :: v113 :: v114 :: v115 :: v116 :: v117 :: v118 :: v119 :: v120 :: v121 :: v122 :: v123 :: v124 :: v125 :: v126 :: v127 :: v128 :: v129 :: v130 :: v131 :: v132 :: v133 :: v134 :: v135 :: v136 :: v137 :: v138 :: v139 :: v140 :: v141 :: v142 :: v143 :: v144 :: v145 :: v146 :: v147 :: v148 :: v149 :: v150 :: v151 :: v152 :: v153 :: v154 :: v155 :: v156 :: v157 :: v158 :: v159 :: v160 :: v161 :: v162 :: v163 :: v164 :: v165 :: v166 :: v167 :: v168 :: v169 :: v170 :: v171 :: v172 :: v173 :: v174 :: v175 :: v176 :: v177 :: v178 :: v179 :: v180 :: v181 :: v182 :: v183 :: v184 :: v185 :: v186 :: v187 :: v188 :: v189 :: v190 :: v191 :: v192 :: v193 :: v194 :: v195 :: v196 :: v197 :: v198 :: v199 :: v200 :: v201 :: v202 :: v203 :: v204 :: v205 :: v206 :: v207 :: v208 :: v209 :: v210 :: v211 :: v212 :: v213 :: v214 :: v215 :: v216 :: v217 :: v218 :: v219 :: v220 :: v221 :: v222 :: v223 :: v224 :: v225 :: v226 :: v227 :: v228 :: v229 :: v230 :: v231 :: v232 :: v233 :: v234 :: v235 :: v236 :: v237 :: v238 :: v239 :: v240 :: v241 :: v242 :: v243 :: v244 :: v245 :: v246 :: v247 :: v248 :: v249 :: v250 :: v251 :: v252 :: v253 :: v254 :: v255 :: []), []⟩ wr := by
  have HKK := Lib.hid hK
  have HCC := Lib.hid hC
  clear hK hC
  conv => arg 2; whnf
  let _QF : Exit → Act → World → Prop := bodyPost Try.prog Try.f4 fun _ _ => True
  go_cut [12] (fun s12 wx => ∃ (t' : Nat) (gf : Nat → Nat) (af : Nat → ConV) (lf : Nat → Int) (vf : Nat → Value) (Sf : Nat → List MsgV), s12 = .int .i64 t' ∧ t' ≤ 3 * (j + 1) ∧ Hid (LivF w wx bx bl bs bh gf af lf (hk af) vf Sf) ∧ Hid (LivG (j + 1) af lf Sf))
  case rest =>
    obtain ⟨t2, gf2, af2, lf2, vf2, Sf2, rfl, h1, h2, h3⟩ := hcut
    exact HKK.out h1 h2 h3
  case first =>
    have h1o := H1O.out
    have ns := HL.out.cs HKO.out
    obtain ⟨A6, k6, hv6, hf6⟩ := own_form (HL.out.row HKO.out)
    rw [hv6] at ns
    by_cases hl0 : (Sf o).length = 0
    · have bl0 : (((Sf o).length : Int) == 0) = true := by simp [hl0]
      clear hl0 hv6
      go_wp2
      exact HCC.out (show t ≤ 3 * (j + 1) by omega) HL (Lib.hid HI.out.more)
    have bl0 : (((Sf o).length : Int) == 0) = false := by simpa using hl0
    obtain ⟨y, hy⟩ : ∃ y : Nat, (y : Int) = x.n % 1024 := ⟨(x.n % 1024).toNat, by omega⟩
    have hya : bits .and .i64 x.n 1023 = (y : Int) := by rw [i64_and1023, hy]
    obtain ⟨p, hp⟩ : ∃ p, p = y % (Sf o).length := ⟨_, rfl⟩
    have hpl : p < (Sf o).length := by rw [hp]; exact Nat.mod_lt _ (by omega)
    have hrm : Int.tmod (y : Int) ((Sf o).length : Int) = (p : Int) := by rw [hp]; rfl
    obtain ⟨q, hq⟩ : ∃ q, (Sf o)[p]? = some q := ⟨_, List.getElem?_eq_getElem hpl⟩
    have HHO := Lib.hid (HI.out o i HKO.out)
    have HQ := Lib.hid (HHO.out.lives q (List.mem_of_getElem? hq))
    have HH := Lib.hid (HI.out i o HK.out)
    obtain ⟨qb, qo, hqA, -, m0, m1, m2, m3, m4, m5, m6, m7, m8, m9, m10⟩ := (El.of_own (by rw [← hv6]; exact HL.out.row HKO.out : wr.ownsRow w.heap.size ElemM.e ElemM.m (.slice A6 (Sf o).length k6) (Sf o).length (ecells ElemM (Sf o)))).at11 p q hq
    subst hqA
    have hpi : (p : Int) < ((Sf o).length : Int) := by omega
    have hll : (Sf o).length ≤ 250 := Nat.le_trans HHO.out.len hj2
    have HLA : Hid (LivF w (wr.alloc (mbox q)).drew bx bl bs bh gf af lf (hk af) vf Sf) := Lib.hid (HL.out.later ((Below.refl _ _).alloc (Nat.le_refl _) _)).drew
    have HLZ : Hid (LivF w (wr.alloc (.cells #[.int .i64 0, .int .i64 0, .int .i64 0, .int .i64 0, .int .i64 0, .int .u32 0, .int .i64 0, .string ⟨#[]⟩, .int .i64 0, .int .i64 0, .bool false] 34)).drew bx bl bs bh gf af lf (hk af) vf Sf) := Lib.hid (HL.out.later ((Below.refl _ _).alloc (Nat.le_refl _) _)).drew
    have nsz := HLZ.out.cs HKO.out
    rw [hv6] at nsz
    have x2z := (HXB.out _ HLZ.out.low).2.2
    obtain ⟨qb', qo', e8, -, z0, z1, z2, z3, z4, z5, z6, z7, z8, z9, z10⟩ := (El.of_own (by rw [← hv6]; exact HLZ.out.row HKO.out : World.ownsRow (wr.alloc (.cells #[.int .i64 0, .int .i64 0, .int .i64 0, .int .i64 0, .int .i64 0, .int .u32 0, .int .i64 0, .string ⟨#[]⟩, .int .i64 0, .int .i64 0, .bool false] 34)).drew w.heap.size ElemM.e ElemM.m (.slice (some ⟨qb, qo, none⟩) (Sf o).length k6) (Sf o).length (ecells ElemM (Sf o)))).at11 p q hq
    injection e8 with e8
    injection e8 with e81 e82
    subst e81 e82
    clear hy hp hq hv6 hl0
    go_upto_region 25 with fail
    go_cut [17] (fun s17 wx => s17 = ptrV wr.heap.size ∧ MBox wx wr.heap.size q ∧ LivF w wx bx bl bs bh gf af lf (hk af) vf Sf)
    case first =>
      go_region
      all_goals
        go_wp2
        go_meet
        exact ⟨rfl, (MBox.new wr q).drew, HLA.out⟩
    case rest =>
      obtain ⟨rfl, hm5, hl5⟩ := hcut
      rename_i wc
      have HM5 := Lib.hid hm5
      have HL5 := Lib.hid hl5
      have HZNE : Hid (¬ One (gf i) wr.heap.size) := Lib.hid (fun e => by have h1 := CAt.lt (HL.out.p HK.out); have h2 : wr.heap.size = gf i := e; omega)
      clear hm5 hl5 m0 m1 m2 m3 m4 m5 m6 m7 m8 m9 m10 z0 z1 z2 z3 z4 z5 z6 z7 z8 z9 z10 nsz x2z x2 ns hrm hpl hpi hll hya bl0 HLZ HLA HL h1o
      obtain ⟨bz, hbz⟩ : ∃ bz, bz = wr.heap.size := ⟨_, rfl⟩
      rw [← hbz] at HM5 HZNE
      rw [← hbz]
      clear hbz
      have HTC := Lib.hid (take_cases (af i) q (t : Int))
      have HG := Lib.hid (HI.out.con HK.out (HH.out.takes HQ.out.1 (t : Int)))
      obtain ⟨T, hT⟩ : ∃ T, T = (af i).take q (t : Int) := ⟨_, rfl⟩
      have HTK := Lib.hid (fun V (h : PAt V (gf i) (af i)) => ptake_any q (t : Int) HQ.out.2 h)
      rw [← hT] at HTC HG HTK
      clear hT
      have u0 := HL5.out.cx HK.out
      have HLD := Lib.hid HL5.out.drew
      obtain ⟨m0, m1, m2, m3, m4, m5, m6, m7, m8, m9, m10⟩ := HM5.out.all
      go_upto_region 26 with fail
      go_region_with (first
        | (go_at_call 16; (with_reducible refine (HTK.out _ ?_).mono ?_); (with_reducible exact HLD.out.p HK.out); rintro e w5 ⟨rfl, hp5, hw5⟩; have HL6 : Hid (LivF w w5 bx bl bs bh gf (upd af i T.1) lf (hk af) vf Sf) := Lib.hid (HLD.out.con HK.out hp5 hw5); have HM6 : Hid (MBox w5 bz q) := Lib.hid (HM5.out.drew.way' hw5 HZNE.out); clear hp5 hw5))
      all_goals
        clear m0 m1 m2 m3 m4 m5 m6 m7 m8 m9 m10 u0 HLD HTK HL5 HM5 HZNE
        obtain ⟨k, hk_⟩ : ∃ k, k = T.2.2 := ⟨_, rfl⟩
        rw [← hk_] at HTC ⊢
        clear hk_
        rcases HTC.out with ⟨hne, he⟩ | ⟨h0, hold, hcase⟩
        · have bk : (k != 0) = true := by simpa using hne
          have HKN : Hid (hk (upd af i T.1) = hk af) := Lib.hid (hk_same (by rw [he]) (by rw [he]))
          have HLN : Hid (LivF w w5 bx bl bs bh gf (upd af i T.1) lf (hk (upd af i T.1)) vf Sf) := Lib.hid (by rw [HKN.out]; exact HL6.out)
          clear hne he HTC
          go_wp2
          exact HCC.out (show t ≤ 3 * (j + 1) by omega) HLN (HG)
        · have bk : (k != 0) = false := by simp [h0]
          have HCO := Lib.hid hold
          have n1 := HL6.out.cl HK.out
          have c0 := HM6.out.c0
          have c1 := HM6.out.c1
          have c2 := HM6.out.c2
          have c3 := HM6.out.c3
          rcases hcase with ⟨hk1, he⟩ | ⟨hk1, he⟩
          · have bq : (q.kind != 1) = false := by simp [hk1]
            have bq2 : (q.kind == 1) = true := by simp [hk1]
            have HOH := Lib.hid (old_hello hk1 HCO.out)
            have HKN : Hid (hk (upd af i T.1) = upd (hk af) i (q.life, q.xid)) := Lib.hid (by rw [hk_upd, he]; rfl)
            clear h0 hk1 he hold HTC HCO
            have y0 : w5.cell? ⟨bh, i * 2, none⟩ = some (.int .i64 (af i).known) := HL6.out.ch0 HK.out
            have y1 : w5.cell? ⟨bh, i * 2 + 1, none⟩ = some (.int .i64 (af i).heard) := HL6.out.ch1 HK.out
            go_upto_region 28 with fail
            go_quiet (fail)
            go_upto_region 31 with fail
            have q0 : decide (q.life < (af i).known) = false := decide_eq_false (by rcases HOH.out with h | ⟨h, _⟩ <;> omega)
            have HLQ := Lib.hid (fun n => HL6.out.drewN n)
            by_cases hkl : (af i).known = q.life
            · have q1 : ((af i).known == q.life) = true := by simp [hkl]
              have q2 : decide (q.xid ≤ (af i).heard) = false := decide_eq_false (by rcases HOH.out with h | ⟨_, h⟩ <;> omega)
              clear hkl
              go_quiet (fail)
              have g0 := HL6.out.fh (i * 2)
              have g1 := HL6.out.fh (i * 2 + 1)
              go_wp2
              go_meet
              exact ⟨t, _, _, _, _, _, rfl, by omega, Lib.hid (by rw [HKN.out]; exact (HL6.out.drewN _).setH HK.out q.life q.xid), HG⟩
            · have q1 : ((af i).known == q.life) = false := by simpa using hkl
              clear hkl
              go_quiet (fail)
              have g0 := HL6.out.fh (i * 2)
              have g1 := HL6.out.fh (i * 2 + 1)
              go_wp2
              go_meet
              exact ⟨t, _, _, _, _, _, rfl, by omega, Lib.hid (by rw [HKN.out]; exact (HL6.out.drewN _).setH HK.out q.life q.xid), HG⟩
          · have bq : (q.kind != 1) = true := by simpa using hk1
            have bq2 : (q.kind == 1) = false := by simpa using hk1
            have HKN : Hid (hk (upd af i T.1) = hk af) := Lib.hid (hk_same (by rw [he]) (by rw [he]))
            have HLN : Hid (LivF w w5 bx bl bs bh gf (upd af i T.1) lf (hk (upd af i T.1)) vf Sf) := Lib.hid (by rw [HKN.out]; exact HL6.out)
            have q0 : (q.seen != lf i) = false := by
              rw [(old_else hk1 HCO.out).2, HH.out.life]; simp
            have q1 : (q.life != T.1.known) = false := by
              rw [he, (old_else hk1 HCO.out).1]; simp
            have u0 := HLN.out.cx HK.out
            have HOT := Lib.hid (fun n => same_flip (pother_any (show PAt (w5.drewN n) (gf i) T.1 by have h := (HLN.out.drewN n).p HK.out; rw [upd_same] at h; exact h)))
            clear h0 hk1 he hold HTC HCO
            go_upto_region 28 with fail
            go_quiet ((go_at_call 12; with_reducible exact Calls.quiet_of_same (HOT.out _)))
            have HLE := Lib.hid (HLN.out.drewN nq)
            clear q0 q1 u0 n1
            go_wp2
            go_meet
            exact ⟨t, _, _, _, _, _, rfl, by omega, HLE, HG⟩
end Go.Proofs.Ytfikdocpcepmmaa
