/- One round of the reference's Sum, apart. -/
import Derived.Test.YtdolonkeanlaoaaDoorShaZ
namespace Go.Proofs.YtdolonkeanlaoaaDoor
open Go.RowKit
attribute [local simp high] id_size id_zero

/-- The loops of a code, each ahead of those in it. -/
def loopsC : Code → List Code
  | .loop c => c :: loopsC c
  | .seq a b => loopsC a ++ loopsC b
  | .block _ c => loopsC c
  | .scope c => loopsC c
  | .cond _ a b => loopsC a ++ loopsC b
  | _ => []
noncomputable def bodyR : Code := ((Tryd.f10.body.map loopsC).getD []).getD 5 .skip
set_option maxRecDepth 1000000 in
set_option maxHeartbeats 20000000 in
theorem round6 (w : World) (T : Nat → Prop) (kb hb wb tp : Nat) (va : Value) (pad : List UInt8) (hv ws : List Nat) (k g cap : Nat) (U : Eight) (wr : World) (Q : Exit → Act → World → Prop) (c0 c1 c2 c3 c4 c5 c6 c8 c10 c12 c13 c14 c15 c18 c19 c20 c21 c22 c23 c24 c25 c26 c27 c28 c29 c30 c31 c32 c33 c34 c35 c36 c37 c38 c39 c40 c41 c42 c43 c44 c45 c46 c47 c48 c49 c50 c51 c52 c53 c54 c55 c56 c57 c58 c59 c60 c61 c62 c63 c64 c65 c66 c67 c68 c69 c70 c71 c72 c73 c74 c75 c76 c77 c78 c79 c80 c81 c82 c83 c84 c85 c86 c87 c88 c89 c90 c91 c92 c93 c94 c95 c96 c97 c98 c99 c100 c101 c102 c103 c104 c105 c106 c107 c108 c109 c110 c111 c112 c113 c114 c115 c116 c117 c118 c119 c120 c121 c122 c123 c124 c125 c126 c127 c128 c129 c130 c131 c132 c133 c134 c135 c136 c137 c138 c139 c140 c141 c142 c143 c144 c145 c146 c147 c148 c149 c150 c151 c152 c153 c154 c155 c156 c157 c158 c159 c160 c161 c162 c163 c164 c165 c166 c167 c168 c169 c170 c171 c172 c173 c174 c175 c176 c177 c178 c179 c180 c181 c182 c183 c184 c185 c186 c187 c188 c189 c190 c191 c192 c193 c194 c195 c196 c197 c198 c199 c200 c201 c202 c203 c204 c205 c206 c207 c208 c209 c210 c211 c212 c213 c214 c215 c216 c217 c218 c219 c220 c221 c222 c223 c224 c225 c226 c227 c228 c229 c230 c231 c232 c233 c234 c235 c236 c237 c238 c239 c240 c241 c242 c243 c244 c245 c246 c247 c248 c249 c250 c251 c252 c253 c254 c255 c256 c257 c258 c259 c260 c261 c262 c263 c264 c265 c266 c267 c268 c269 c270 c271 c272 c273 c274 c275 c276 c277 c278 c279 c280 c281 c282 c283 c284 c285 c286 c287 c288 c289 c290 c291 c292 c293 c294 c295 c296 c297 c298 : Value)
    (hk64 : k < 64) (_hcp1 : 8 ≤ cap) (_hcp2 : cap ≤ 9223372036854775807) (_hgs : Hid (tp ≤ g ∧ g < wr.heap.size)) (HLU : Hid (∀ x ∈ U.list, x < two32)) (HSL : Hid (ws.length = 64)) (HSLT : Hid (∀ x ∈ ws, x < two32)) (VU : Hid (VAt wr g U)) (WU : Hid (WordsAt wr wb ws)) (AU : Hid (Amb w T kb hb va pad hv tp wr))
    (hQ : ∀ (w' : World) (g2 : Nat) (v18 v19 v20 v21 v139 v140 v141 v142 v143 v144 v145 v146 v147 v148 v149 v150 v151 v152 v153 v154 v155 v156 v157 v158 v159 v160 v161 v162 v163 v164 v165 v166 v167 v168 v169 v170 v171 v172 v173 v174 v175 v176 v177 v178 v179 v180 v181 v182 v183 v184 v185 v186 v187 v188 v189 v190 v191 v192 v193 v194 v195 v196 v197 v198 v199 v200 v201 v202 v203 v204 v205 v206 v207 v208 v209 v210 v211 v212 v213 v214 v215 v216 v217 v218 v219 v220 v221 v222 v223 v224 v225 v226 v227 v228 v229 v230 v231 v232 v233 v234 v235 v236 v237 v238 v239 v240 v241 v242 v243 v244 v245 v246 v247 v248 v249 v250 v251 v252 v253 v254 v255 v256 v257 v258 v259 v260 : Value), VAt w' g2 (roundN U (partsL.getD k 0) (ws.getD k 0)) → WordsAt w' wb ws → Amb w T kb hb va pad hv tp w' → tp ≤ g2 → g2 < w'.heap.size → Q .normal ⟨List.toArray (c0 :: c1 :: c2 :: c3 :: c4 :: c5 :: c6 :: .slice (some ⟨kb, 0, none⟩) 64 64 :: c8 :: .int .u64 4294967296 :: c10 :: .slice (some ⟨wb, 0, none⟩) 64 64 :: c12 :: c13 :: c14 :: c15 :: .slice (some ⟨g2, 0, none⟩) 8 8 :: .int .i64 ((k : Int) + 1) :: v18 :: v19 :: v20 :: v21 :: c22 :: c23 :: c24 :: c25 :: c26 :: c27 :: c28 :: c29 :: c30 :: c31 :: c32 :: c33 :: c34 :: c35 :: c36 :: c37 :: c38 :: c39 :: c40 :: c41 :: c42 :: c43 :: c44 :: c45 :: c46 :: c47 :: c48 :: c49 :: c50 :: c51 :: c52 :: c53 :: c54 :: c55 :: c56 :: c57 :: c58 :: c59 :: c60 :: c61 :: c62 :: c63 :: c64 :: c65 :: c66 :: c67 :: c68 :: c69 :: c70 :: c71 :: c72 :: c73 :: c74 :: c75 :: c76 :: c77 :: c78 :: c79 :: c80 :: c81 :: c82 :: c83 :: c84 :: c85 :: c86 :: c87 :: c88 :: c89 :: c90 :: c91 :: c92 :: c93 :: c94 :: c95 :: c96 :: c97 :: c98 :: c99 :: c100 :: c101 :: c102 :: c103 :: c104 :: c105 :: c106 :: c107 :: c108 :: c109 :: c110 :: c111 :: c112 :: c113 :: c114 :: c115 :: c116 :: c117 :: c118 :: c119 :: c120 :: c121 :: c122 :: c123 :: c124 :: c125 :: c126 :: c127 :: c128 :: c129 :: c130 :: c131 :: c132 :: c133 :: c134 :: c135 :: c136 :: c137 :: c138 :: v139 :: v140 :: v141 :: v142 :: v143 :: v144 :: v145 :: v146 :: v147 :: v148 :: v149 :: v150 :: v151 :: v152 :: v153 :: v154 :: v155 :: v156 :: v157 :: v158 :: v159 :: v160 :: v161 :: v162 :: v163 :: v164 :: v165 :: v166 :: v167 :: v168 :: v169 :: v170 :: v171 :: v172 :: v173 :: v174 :: v175 :: v176 :: v177 :: v178 :: v179 :: v180 :: v181 :: v182 :: v183 :: v184 :: v185 :: v186 :: v187 :: v188 :: v189 :: v190 :: v191 :: v192 :: v193 :: v194 :: v195 :: v196 :: v197 :: v198 :: v199 :: v200 :: v201 :: v202 :: v203 :: v204 :: v205 :: v206 :: v207 :: v208 :: v209 :: v210 :: v211 :: v212 :: v213 :: v214 :: v215 :: v216 :: v217 :: v218 :: v219 :: v220 :: v221 :: v222 :: v223 :: v224 :: v225 :: v226 :: v227 :: v228 :: v229 :: v230 :: v231 :: v232 :: v233 :: v234 :: v235 :: v236 :: v237 :: v238 :: v239 :: v240 :: v241 :: v242 :: v243 :: v244 :: v245 :: v246 :: v247 :: v248 :: v249 :: v250 :: v251 :: v252 :: v253 :: v254 :: v255 :: v256 :: v257 :: v258 :: v259 :: v260 :: c261 :: c262 :: c263 :: c264 :: c265 :: c266 :: c267 :: c268 :: c269 :: c270 :: c271 :: c272 :: c273 :: c274 :: c275 :: c276 :: c277 :: c278 :: c279 :: c280 :: c281 :: c282 :: c283 :: c284 :: c285 :: c286 :: c287 :: c288 :: c289 :: c290 :: c291 :: c292 :: c293 :: c294 :: c295 :: c296 :: c297 :: c298 :: []), []⟩ w') :
    Code.wp Tryd.prog bodyR Q ⟨List.toArray (c0 :: c1 :: c2 :: c3 :: c4 :: c5 :: c6 :: .slice (some ⟨kb, 0, none⟩) 64 64 :: c8 :: .int .u64 4294967296 :: c10 :: .slice (some ⟨wb, 0, none⟩) 64 64 :: c12 :: c13 :: c14 :: c15 :: .slice (some ⟨g, 0, none⟩) 8 cap :: .int .i64 (k : Int) :: c18 :: c19 :: c20 :: c21 :: c22 :: c23 :: c24 :: c25 :: c26 :: c27 :: c28 :: c29 :: c30 :: c31 :: c32 :: c33 :: c34 :: c35 :: c36 :: c37 :: c38 :: c39 :: c40 :: c41 :: c42 :: c43 :: c44 :: c45 :: c46 :: c47 :: c48 :: c49 :: c50 :: c51 :: c52 :: c53 :: c54 :: c55 :: c56 :: c57 :: c58 :: c59 :: c60 :: c61 :: c62 :: c63 :: c64 :: c65 :: c66 :: c67 :: c68 :: c69 :: c70 :: c71 :: c72 :: c73 :: c74 :: c75 :: c76 :: c77 :: c78 :: c79 :: c80 :: c81 :: c82 :: c83 :: c84 :: c85 :: c86 :: c87 :: c88 :: c89 :: c90 :: c91 :: c92 :: c93 :: c94 :: c95 :: c96 :: c97 :: c98 :: c99 :: c100 :: c101 :: c102 :: c103 :: c104 :: c105 :: c106 :: c107 :: c108 :: c109 :: c110 :: c111 :: c112 :: c113 :: c114 :: c115 :: c116 :: c117 :: c118 :: c119 :: c120 :: c121 :: c122 :: c123 :: c124 :: c125 :: c126 :: c127 :: c128 :: c129 :: c130 :: c131 :: c132 :: c133 :: c134 :: c135 :: c136 :: c137 :: c138 :: c139 :: c140 :: c141 :: c142 :: c143 :: c144 :: c145 :: c146 :: c147 :: c148 :: c149 :: c150 :: c151 :: c152 :: c153 :: c154 :: c155 :: c156 :: c157 :: c158 :: c159 :: c160 :: c161 :: c162 :: c163 :: c164 :: c165 :: c166 :: c167 :: c168 :: c169 :: c170 :: c171 :: c172 :: c173 :: c174 :: c175 :: c176 :: c177 :: c178 :: c179 :: c180 :: c181 :: c182 :: c183 :: c184 :: c185 :: c186 :: c187 :: c188 :: c189 :: c190 :: c191 :: c192 :: c193 :: c194 :: c195 :: c196 :: c197 :: c198 :: c199 :: c200 :: c201 :: c202 :: c203 :: c204 :: c205 :: c206 :: c207 :: c208 :: c209 :: c210 :: c211 :: c212 :: c213 :: c214 :: c215 :: c216 :: c217 :: c218 :: c219 :: c220 :: c221 :: c222 :: c223 :: c224 :: c225 :: c226 :: c227 :: c228 :: c229 :: c230 :: c231 :: c232 :: c233 :: c234 :: c235 :: c236 :: c237 :: c238 :: c239 :: c240 :: c241 :: c242 :: c243 :: c244 :: c245 :: c246 :: c247 :: c248 :: c249 :: c250 :: c251 :: c252 :: c253 :: c254 :: c255 :: c256 :: c257 :: c258 :: c259 :: c260 :: c261 :: c262 :: c263 :: c264 :: c265 :: c266 :: c267 :: c268 :: c269 :: c270 :: c271 :: c272 :: c273 :: c274 :: c275 :: c276 :: c277 :: c278 :: c279 :: c280 :: c281 :: c282 :: c283 :: c284 :: c285 :: c286 :: c287 :: c288 :: c289 :: c290 :: c291 :: c292 :: c293 :: c294 :: c295 :: c296 :: c297 :: c298 :: []), []⟩ wr := by
  conv => arg 2; whnf
  have HLP : Hid (partsL.getD k 0 < two32) := Lib.hid (getD_lt (by decide +kernel))
  have HLW : Hid (ws.getD k 0 < two32) := Lib.hid (getD_lt HSLT.out)
  have q0 : wr.cell? ⟨g, 0, none⟩ = some (.int .u64 (U.a : Int)) := VU.out 0 (by omega)
  have q1 : wr.cell? ⟨g, 1, none⟩ = some (.int .u64 (U.b : Int)) := VU.out 1 (by omega)
  have q2 : wr.cell? ⟨g, 2, none⟩ = some (.int .u64 (U.c : Int)) := VU.out 2 (by omega)
  have q3 : wr.cell? ⟨g, 3, none⟩ = some (.int .u64 (U.d : Int)) := VU.out 3 (by omega)
  have q4 : wr.cell? ⟨g, 4, none⟩ = some (.int .u64 (U.e : Int)) := VU.out 4 (by omega)
  have q5 : wr.cell? ⟨g, 5, none⟩ = some (.int .u64 (U.f : Int)) := VU.out 5 (by omega)
  have q6 : wr.cell? ⟨g, 6, none⟩ = some (.int .u64 (U.g : Int)) := VU.out 6 (by omega)
  have q7 : wr.cell? ⟨g, 7, none⟩ = some (.int .u64 (U.h : Int)) := VU.out 7 (by omega)
  have q8 : wr.cell? ⟨kb, k, none⟩ = some (.int .u64 ((partsL.getD k 0 : Nat) : Int)) := by
    rw [AU.out.p.cell k hk64]; simp [List.getD, List.getElem?_eq_getElem (show k < partsL.length from hk64)]; rfl
  have q9 : wr.cell? ⟨wb, k, none⟩ = some (.int .u64 ((ws.getD k 0 : Nat) : Int)) := by
    rw [WU.out.cell k (by rw [HSL.out]; exact hk64)]; simp [List.getD, List.getElem?_eq_getElem (show k < ws.length by rw [HSL.out]; exact hk64)]
  obtain ⟨pk, hpk⟩ : ∃ p, partsL.getD k 0 = p := ⟨_, rfl⟩
  obtain ⟨wk, hwk⟩ : ∃ p, ws.getD k 0 = p := ⟨_, rfl⟩
  rw [hpk] at q8 HLP hQ
  rw [hwk] at q9 HLW hQ
  clear hpk hwk VU
  obtain ⟨a, b, c, d, e, f, gg, h⟩ := U
  simp only at q0 q1 q2 q3 q4 q5 q6 q7
  obtain ⟨ch, mo, g0, g1, t, u, z1, z2, RI⟩ := round_is (HLU.out a (by simp [Eight.list])) (HLU.out b (by simp [Eight.list])) (HLU.out c (by simp [Eight.list])) (HLU.out d (by simp [Eight.list])) (HLU.out e (by simp [Eight.list])) (HLU.out f (by simp [Eight.list])) (HLU.out gg (by simp [Eight.list])) (HLU.out h (by simp [Eight.list])) HLP.out HLW.out
  have HLa := Lib.hid (HLU.out a (by simp [Eight.list]))
  have HLe := Lib.hid (HLU.out e (by simp [Eight.list]))
  rw [RI.out] at hQ
  have HRI := Lib.hid RI
  clear RI HLU HLP HLW
  have hdk : decide ((k : Int) < 64) = true := decide_eq_true (by omega)
  have e1 : (k : Int) < 64 := by omega
  have e2 : (0 : Int) ≤ (k : Int) := by omega
  have y1 := HRI.out.y1
  have y2 := HRI.out.y2
  have y3 := HRI.out.y3
  have t10 := HRI.out.t10
  go_wp2_with fail
  go_quiet (fail)
  replace q0 : (wr.drewN nq).cell? ⟨g, 0, none⟩ = some (.int .u64 (a : Int)) := q0
  replace q1 : (wr.drewN nq).cell? ⟨g, 1, none⟩ = some (.int .u64 (b : Int)) := q1
  replace q2 : (wr.drewN nq).cell? ⟨g, 2, none⟩ = some (.int .u64 (c : Int)) := q2
  replace q3 : (wr.drewN nq).cell? ⟨g, 3, none⟩ = some (.int .u64 (d : Int)) := q3
  replace q4 : (wr.drewN nq).cell? ⟨g, 4, none⟩ = some (.int .u64 (e : Int)) := q4
  replace q5 : (wr.drewN nq).cell? ⟨g, 5, none⟩ = some (.int .u64 (f : Int)) := q5
  replace q6 : (wr.drewN nq).cell? ⟨g, 6, none⟩ = some (.int .u64 (gg : Int)) := q6
  replace q7 : (wr.drewN nq).cell? ⟨g, 7, none⟩ = some (.int .u64 (h : Int)) := q7
  replace q8 : (wr.drewN nq).cell? ⟨kb, k, none⟩ = some (.int .u64 (pk : Int)) := q8
  replace q9 : (wr.drewN nq).cell? ⟨wb, k, none⟩ = some (.int .u64 (wk : Int)) := q9
  replace AU := Lib.hid (AU.out.on (below_draw tp wr nq))
  replace WU := Lib.hid (WU.out.kept (w' := wr.drewN nq) rfl)
  obtain ⟨wq1, hwq1⟩ : ∃ W, wr.drewN nq = W := ⟨_, rfl⟩
  rw [hwq1] at q0 q1 q2 q3 q4 q5 q6 q7 q8 q9 AU WU ⊢
  clear hwq1
  clear y1 y2 y3 t10
  have y4 := HRI.out.y4
  have y5 := HRI.out.y5
  have y6 := HRI.out.y6
  have y7 := HRI.out.y7
  have y8 := HRI.out.y8
  go_wp2_with fail
  go_quiet (fail)
  replace q0 : (wq1.drewN nq).cell? ⟨g, 0, none⟩ = some (.int .u64 (a : Int)) := q0
  replace q1 : (wq1.drewN nq).cell? ⟨g, 1, none⟩ = some (.int .u64 (b : Int)) := q1
  replace q2 : (wq1.drewN nq).cell? ⟨g, 2, none⟩ = some (.int .u64 (c : Int)) := q2
  replace q3 : (wq1.drewN nq).cell? ⟨g, 3, none⟩ = some (.int .u64 (d : Int)) := q3
  replace q4 : (wq1.drewN nq).cell? ⟨g, 4, none⟩ = some (.int .u64 (e : Int)) := q4
  replace q5 : (wq1.drewN nq).cell? ⟨g, 5, none⟩ = some (.int .u64 (f : Int)) := q5
  replace q6 : (wq1.drewN nq).cell? ⟨g, 6, none⟩ = some (.int .u64 (gg : Int)) := q6
  replace q7 : (wq1.drewN nq).cell? ⟨g, 7, none⟩ = some (.int .u64 (h : Int)) := q7
  replace q8 : (wq1.drewN nq).cell? ⟨kb, k, none⟩ = some (.int .u64 (pk : Int)) := q8
  replace q9 : (wq1.drewN nq).cell? ⟨wb, k, none⟩ = some (.int .u64 (wk : Int)) := q9
  replace AU := Lib.hid (AU.out.on (below_draw tp wq1 nq))
  replace WU := Lib.hid (WU.out.kept (w' := wq1.drewN nq) rfl)
  obtain ⟨wq2, hwq2⟩ : ∃ W, wq1.drewN nq = W := ⟨_, rfl⟩
  rw [hwq2] at q0 q1 q2 q3 q4 q5 q6 q7 q8 q9 AU WU ⊢
  clear hwq2
  clear y4 y5 y6 y7 y8
  have y11 := HRI.out.y11
  have y12 := HRI.out.y12
  have t1 := HRI.out.t1
  have t2 := HRI.out.t2
  have t3 := HRI.out.t3
  have t4 := HRI.out.t4
  have T6 : Hid (∀ W, Calls Tryd.prog 28 #[.int .u64 (e : Int), .int .i64 6] W fun en w' => en = .returned (.int .u64 ((rotN e 6 : Nat) : Int)) ∧ ∃ d, w' = W.drewN d) := Lib.hid (fun W => turn_any e 6 W HLe.out (by omega))
  have T11 : Hid (∀ W, Calls Tryd.prog 28 #[.int .u64 (e : Int), .int .i64 11] W fun en w' => en = .returned (.int .u64 ((rotN e 11 : Nat) : Int)) ∧ ∃ d, w' = W.drewN d) := Lib.hid (fun W => turn_any e 11 W HLe.out (by omega))
  have T25 : Hid (∀ W, Calls Tryd.prog 28 #[.int .u64 (e : Int), .int .i64 25] W fun en w' => en = .returned (.int .u64 ((rotN e 25 : Nat) : Int)) ∧ ∃ d, w' = W.drewN d) := Lib.hid (fun W => turn_any e 25 W HLe.out (by omega))
  go_wp2_with fail
  go_quiet ((go_at_call 28; first | with_reducible exact quiet_dr (T6.out _) | with_reducible exact quiet_dr (T11.out _) | with_reducible exact quiet_dr (T25.out _)))
  replace q0 : (wq2.drewN nq).cell? ⟨g, 0, none⟩ = some (.int .u64 (a : Int)) := q0
  replace q1 : (wq2.drewN nq).cell? ⟨g, 1, none⟩ = some (.int .u64 (b : Int)) := q1
  replace q2 : (wq2.drewN nq).cell? ⟨g, 2, none⟩ = some (.int .u64 (c : Int)) := q2
  replace q3 : (wq2.drewN nq).cell? ⟨g, 3, none⟩ = some (.int .u64 (d : Int)) := q3
  replace q4 : (wq2.drewN nq).cell? ⟨g, 4, none⟩ = some (.int .u64 (e : Int)) := q4
  replace q5 : (wq2.drewN nq).cell? ⟨g, 5, none⟩ = some (.int .u64 (f : Int)) := q5
  replace q6 : (wq2.drewN nq).cell? ⟨g, 6, none⟩ = some (.int .u64 (gg : Int)) := q6
  replace q7 : (wq2.drewN nq).cell? ⟨g, 7, none⟩ = some (.int .u64 (h : Int)) := q7
  replace q8 : (wq2.drewN nq).cell? ⟨kb, k, none⟩ = some (.int .u64 (pk : Int)) := q8
  replace q9 : (wq2.drewN nq).cell? ⟨wb, k, none⟩ = some (.int .u64 (wk : Int)) := q9
  replace AU := Lib.hid (AU.out.on (below_draw tp wq2 nq))
  replace WU := Lib.hid (WU.out.kept (w' := wq2.drewN nq) rfl)
  obtain ⟨wq3, hwq3⟩ : ∃ W, wq2.drewN nq = W := ⟨_, rfl⟩
  rw [hwq3] at q0 q1 q2 q3 q4 q5 q6 q7 q8 q9 AU WU ⊢
  clear hwq3
  clear y11 y12 t1 t2 t3 t4 T6 T11 T25
  have y9 := HRI.out.y9
  have y10 := HRI.out.y10
  have t5 := HRI.out.t5
  have T2 : Hid (∀ W, Calls Tryd.prog 28 #[.int .u64 (a : Int), .int .i64 2] W fun en w' => en = .returned (.int .u64 ((rotN a 2 : Nat) : Int)) ∧ ∃ d, w' = W.drewN d) := Lib.hid (fun W => turn_any a 2 W HLa.out (by omega))
  have T13 : Hid (∀ W, Calls Tryd.prog 28 #[.int .u64 (a : Int), .int .i64 13] W fun en w' => en = .returned (.int .u64 ((rotN a 13 : Nat) : Int)) ∧ ∃ d, w' = W.drewN d) := Lib.hid (fun W => turn_any a 13 W HLa.out (by omega))
  have T22 : Hid (∀ W, Calls Tryd.prog 28 #[.int .u64 (a : Int), .int .i64 22] W fun en w' => en = .returned (.int .u64 ((rotN a 22 : Nat) : Int)) ∧ ∃ d, w' = W.drewN d) := Lib.hid (fun W => turn_any a 22 W HLa.out (by omega))
  go_wp2_with fail
  go_quiet ((go_at_call 28; first | with_reducible exact quiet_dr (T2.out _) | with_reducible exact quiet_dr (T13.out _) | with_reducible exact quiet_dr (T22.out _)))
  replace q0 : (wq3.drewN nq).cell? ⟨g, 0, none⟩ = some (.int .u64 (a : Int)) := q0
  replace q1 : (wq3.drewN nq).cell? ⟨g, 1, none⟩ = some (.int .u64 (b : Int)) := q1
  replace q2 : (wq3.drewN nq).cell? ⟨g, 2, none⟩ = some (.int .u64 (c : Int)) := q2
  replace q3 : (wq3.drewN nq).cell? ⟨g, 3, none⟩ = some (.int .u64 (d : Int)) := q3
  replace q4 : (wq3.drewN nq).cell? ⟨g, 4, none⟩ = some (.int .u64 (e : Int)) := q4
  replace q5 : (wq3.drewN nq).cell? ⟨g, 5, none⟩ = some (.int .u64 (f : Int)) := q5
  replace q6 : (wq3.drewN nq).cell? ⟨g, 6, none⟩ = some (.int .u64 (gg : Int)) := q6
  replace q7 : (wq3.drewN nq).cell? ⟨g, 7, none⟩ = some (.int .u64 (h : Int)) := q7
  replace q8 : (wq3.drewN nq).cell? ⟨kb, k, none⟩ = some (.int .u64 (pk : Int)) := q8
  replace q9 : (wq3.drewN nq).cell? ⟨wb, k, none⟩ = some (.int .u64 (wk : Int)) := q9
  replace AU := Lib.hid (AU.out.on (below_draw tp wq3 nq))
  replace WU := Lib.hid (WU.out.kept (w' := wq3.drewN nq) rfl)
  obtain ⟨wq4, hwq4⟩ : ∃ W, wq3.drewN nq = W := ⟨_, rfl⟩
  rw [hwq4] at q0 q1 q2 q3 q4 q5 q6 q7 q8 q9 AU WU ⊢
  clear hwq4
  clear y9 y10 t5 T2 T13 T22
  have t6 := HRI.out.t6
  have t7 := HRI.out.t7
  have t8 := HRI.out.t8
  have t9 := HRI.out.t9
  go_wp2_with fail
  go_still_tail 30, (by kernel_rfl)
  change wpList _ _ _ _ _ (wq4.drewN 1)
  replace q0 : (wq4.drewN 1).cell? ⟨g, 0, none⟩ = some (.int .u64 (a : Int)) := q0
  replace q1 : (wq4.drewN 1).cell? ⟨g, 1, none⟩ = some (.int .u64 (b : Int)) := q1
  replace q2 : (wq4.drewN 1).cell? ⟨g, 2, none⟩ = some (.int .u64 (c : Int)) := q2
  replace q3 : (wq4.drewN 1).cell? ⟨g, 3, none⟩ = some (.int .u64 (d : Int)) := q3
  replace q4 : (wq4.drewN 1).cell? ⟨g, 4, none⟩ = some (.int .u64 (e : Int)) := q4
  replace q5 : (wq4.drewN 1).cell? ⟨g, 5, none⟩ = some (.int .u64 (f : Int)) := q5
  replace q6 : (wq4.drewN 1).cell? ⟨g, 6, none⟩ = some (.int .u64 (gg : Int)) := q6
  replace q7 : (wq4.drewN 1).cell? ⟨g, 7, none⟩ = some (.int .u64 (h : Int)) := q7
  replace q8 : (wq4.drewN 1).cell? ⟨kb, k, none⟩ = some (.int .u64 (pk : Int)) := q8
  replace q9 : (wq4.drewN 1).cell? ⟨wb, k, none⟩ = some (.int .u64 (wk : Int)) := q9
  replace AU := Lib.hid (AU.out.on (below_draw tp wq4 1))
  replace WU := Lib.hid (WU.out.kept (w' := wq4.drewN 1) rfl)
  obtain ⟨wq5, hwq5⟩ : ∃ W, wq4.drewN 1 = W := ⟨_, rfl⟩
  rw [hwq5] at q0 q1 q2 q3 q4 q5 q6 q7 q8 q9 AU WU ⊢
  clear hwq5
  clear q0 q1 q2 q3 q4 q5 q6 q7 q8 q9 t6 t7 t8 t9
  have VN : Hid (VAt (wq5.alloc (.cells #[.int .u64 (z1 : Int), .int .u64 (a : Int), .int .u64 (b : Int), .int .u64 (c : Int), .int .u64 (z2 : Int), .int .u64 (e : Int), .int .u64 (f : Int), .int .u64 (gg : Int)] 50)) wq5.heap.size ⟨z1, a, b, c, z2, e, f, gg⟩) := Lib.hid (VAt.of_row ⟨new_five wq5 _ _⟩)
  have WN : Hid (∀ o, WordsAt (wq5.alloc o) wb ws) := Lib.hid (fun o => WU.out.kept (Below.heap_alloc wq5 o wb (Array.getElem?_eq_some_iff.1 WU.out.blk).1))
  have AN : Hid (∀ o, Amb w T kb hb va pad hv tp (wq5.alloc o)) := Lib.hid (fun o => AU.out.on ((Below.refl tp wq5).alloc AU.out.sz o))
  have hgn : tp ≤ wq5.heap.size := AU.out.sz
  clear AU WU
  go_wp2_with fail
  exact hQ _ _ _ _ _ _ _ _ _ _ _ _ _ _ _ _ _ _ _ _ _ _ _ _ _ _ _ _ _ _ _ _ _ _ _ _ _ _ _ _ _ _ _ _ _ _ _ _ _ _ _ _ _ _ _ _ _ _ _ _ _ _ _ _ _ _ _ _ _ _ _ _ _ _ _ _ _ _ _ _ _ _ _ _ _ _ _ _ _ _ _ _ _ _ _ _ _ _ _ _ _ _ _ _ _ _ _ _ _ _ _ _ _ _ _ _ _ _ _ _ _ _ _ _ _ _ _ _ VN.out (WN.out _) (AN.out _) hgn (by simp)
end Go.Proofs.YtdolonkeanlaoaaDoor
