/- ObjectBack's comparison of two entries. -/
import Derived.Test.YtdolonkeanlaoaaObBb
namespace Go.Proofs.Ytdolonkeanlaoaa
open Go.RowKit
attribute [local simp high] id_size id_zero ent_size ent_zero com_size com_zero n32_ne n35_ne n36_ne

def fstC : Code → Code
  | .seq a _ => a
  | c => c
def sndC : Code → Code
  | .seq _ b => b
  | c => c
def thnC : Code → Code
  | .cond _ a _ => a
  | c => c
def inC : Code → Code
  | .block _ a => a
  | .loop a => a
  | c => c
set_option maxRecDepth 100000 in
set_option maxHeartbeats 8000000 in
theorem entry_same {e : EntN} {g o g2 o2 tn tc xc lc k want : Nat} {b3 : Addr} {w : World} {K : Act → World → Prop} {Q : Exit → Act → World → Prop} {v0 v2 v3 v4 v5 v6 v7 v8 v9 v10 v11 v12 v13 v14 v16 v18 v21 v22 v23 v24 v25 v26 v27 v28 v29 v30 v31 v32 v33 v34 v35 v36 v37 v38 v39 v40 v41 v42 v43 v44 v45 v46 v47 v48 v49 v50 v51 v52 v53 v54 v55 v56 v57 v58 v59 v60 v61 v62 v63 v64 v65 v66 v67 v68 v69 v70 v71 v72 v73 v74 v75 v76 v77 v78 v79 v80 v81 v82 v83 v84 v85 v86 v87 v88 v89 v90 v91 v92 v93 v94 v95 v96 v97 v98 v99 v100 v101 v102 v103 v104 v105 v106 v107 v108 v109 v110 v111 v112 v113 v114 v115 v116 v117 v118 v119 v120 v121 v122 v123 v124 v125 v126 v127 v128 v129 v130 v131 v132 v133 v134 v135 v136 v137 v138 v139 v140 v141 v142 v143 v144 v145 v146 v147 v148 v149 v150 v151 v152 v153 v154 v155 v156 v157 v158 v159 v160 v161 v162 v163 v164 v165 v166 v167 v168 v169 v170 v171 v172 v173 v174 v175 v176 v177 v178 v179 v180 v181 v182 v183 v184 v185 v186 v187 v189 v190 v191 v192 v193 v194 v195 v196 v197 v198 v199 v200 v201 v202 v203 v204 v205 v206 v207 v208 v209 v210 v211 v212 v213 v214 v215 v216 v217 v218 v219 v220 v221 v222 v223 v224 v225 v226 v227 v228 v229 v230 v231 v232 v233 v234 v235 v236 v237 v238 v239 v240 v241 v242 v243 v244 v245 v246 v247 v248 v249 v250 v251 v252 v253 v188 : Value} (hk : k < tn) (hwant : want = if e.folder = true then 0 else e.stamp)
    (ca : ∀ j, j < 35 → w.cell? ⟨g, o + k * n35 + j, none⟩ = some (entF e j)) (cb : ∀ j, j < 35 → w.cell? ⟨g2, o2 + k * n35 + j, none⟩ = some (entF (backE e) j)) (h32 : e.id.length = 32)
    (hl3 : ∀ nq, (loadCellsFrom (b3.add (k * n32)) 0 n32 #[]).run Try.prog (w.drewN nq) = .ok (bv e.id).toArray (w.drewN nq))
    (hK : ∀ (u126 u127 u128 u129 u130 u131 u132 u133 u134 u135 u136 u137 u138 u139 u140 u141 u142 u143 u144 u145 u146 u147 u148 u149 u150 u151 u152 u153 u154 u155 u156 u157 u158 u159 u160 u161 u162 u163 u164 u165 u166 u167 u168 u169 u170 u171 u172 u173 u174 u175 u176 u177 u178 u179 u180 u181 u182 u183 u184 u185 u186 u187 : Value) (nq : Nat), K ⟨#[v0, .slice (some ⟨g, o, none⟩) tn tc, v2, v3, v4, v5, v6, v7, v8, v9, v10, v11, v12, v13, v14, .slice (some ⟨g2, o2, none⟩) tn xc, v16, .slice (some b3) tn lc, v18, .int .i64 (k : Int), .float .f64 want, v21, v22, v23, v24, v25, v26, v27, v28, v29, v30, v31, v32, v33, v34, v35, v36, v37, v38, v39, v40, v41, v42, v43, v44, v45, v46, v47, v48, v49, v50, v51, v52, v53, v54, v55, v56, v57, v58, v59, v60, v61, v62, v63, v64, v65, v66, v67, v68, v69, v70, v71, v72, v73, v74, v75, v76, v77, v78, v79, v80, v81, v82, v83, v84, v85, v86, v87, v88, v89, v90, v91, v92, v93, v94, v95, v96, v97, v98, v99, v100, v101, v102, v103, v104, v105, v106, v107, v108, v109, v110, v111, v112, v113, v114, v115, v116, v117, v118, v119, v120, v121, v122, v123, v124, v125, u126, u127, u128, u129, u130, u131, u132, u133, u134, u135, u136, u137, u138, u139, u140, u141, u142, u143, u144, u145, u146, u147, u148, u149, u150, u151, u152, u153, u154, u155, u156, u157, u158, u159, u160, u161, u162, u163, u164, u165, u166, u167, u168, u169, u170, u171, u172, u173, u174, u175, u176, u177, u178, u179, u180, u181, u182, u183, u184, u185, u186, u187, .bool false, v189, v190, v191, v192, v193, v194, v195, v196, v197, v198, v199, v200, v201, v202, v203, v204, v205, v206, v207, v208, v209, v210, v211, v212, v213, v214, v215, v216, v217, v218, v219, v220, v221, v222, v223, v224, v225, v226, v227, v228, v229, v230, v231, v232, v233, v234, v235, v236, v237, v238, v239, v240, v241, v242, v243, v244, v245, v246, v247, v248, v249, v250, v251, v252, v253], []⟩ (w.drewN nq)) :
    Code.wp Try.prog (fstC (sndC (sndC (sndC (inC (fstC (sndC (sndC (inC (inC (sndC (sndC (sndC (sndC (thnC (sndC (sndC (fstC (sndC (sndC (sndC (Try.f5.body.getD .skip)))))))))))))))))))))) (Exit.then K Q) ⟨#[v0, .slice (some ⟨g, o, none⟩) tn tc, v2, v3, v4, v5, v6, v7, v8, v9, v10, v11, v12, v13, v14, .slice (some ⟨g2, o2, none⟩) tn xc, v16, .slice (some b3) tn lc, v18, .int .i64 (k : Int), .float .f64 want, v21, v22, v23, v24, v25, v26, v27, v28, v29, v30, v31, v32, v33, v34, v35, v36, v37, v38, v39, v40, v41, v42, v43, v44, v45, v46, v47, v48, v49, v50, v51, v52, v53, v54, v55, v56, v57, v58, v59, v60, v61, v62, v63, v64, v65, v66, v67, v68, v69, v70, v71, v72, v73, v74, v75, v76, v77, v78, v79, v80, v81, v82, v83, v84, v85, v86, v87, v88, v89, v90, v91, v92, v93, v94, v95, v96, v97, v98, v99, v100, v101, v102, v103, v104, v105, v106, v107, v108, v109, v110, v111, v112, v113, v114, v115, v116, v117, v118, v119, v120, v121, v122, v123, v124, v125, v126, v127, v128, v129, v130, v131, v132, v133, v134, v135, v136, v137, v138, v139, v140, v141, v142, v143, v144, v145, v146, v147, v148, v149, v150, v151, v152, v153, v154, v155, v156, v157, v158, v159, v160, v161, v162, v163, v164, v165, v166, v167, v168, v169, v170, v171, v172, v173, v174, v175, v176, v177, v178, v179, v180, v181, v182, v183, v184, v185, v186, v187, v188, v189, v190, v191, v192, v193, v194, v195, v196, v197, v198, v199, v200, v201, v202, v203, v204, v205, v206, v207, v208, v209, v210, v211, v212, v213, v214, v215, v216, v217, v218, v219, v220, v221, v222, v223, v224, v225, v226, v227, v228, v229, v230, v231, v232, v233, v234, v235, v236, v237, v238, v239, v240, v241, v242, v243, v244, v245, v246, v247, v248, v249, v250, v251, v252, v253], []⟩ w := by
  have hl1 : ∀ nq, (loadCellsFrom ⟨g, o + k * n35 + 2, none⟩ 0 n32 #[]).run Try.prog (w.drewN nq) = .ok (bv e.id).toArray (w.drewN nq) := fun nq => by
    have := load_row (w.drewN nq) g (o + k * n35 + 2) n32 (fun j => entF e (2 + j)) (fun j hj => by rw [Nat.add_assoc _ 2 j]; exact ca (2 + j) (by unfold n32 at hj; omega))
    rw [ent_id h32] at this; exact this
  have hl2 : ∀ nq, (loadCellsFrom ⟨g2, o2 + k * n35 + 2, none⟩ 0 n32 #[]).run Try.prog (w.drewN nq) = .ok (bv e.id).toArray (w.drewN nq) := fun nq => by
    have := load_row (w.drewN nq) g2 (o2 + k * n35 + 2) n32 (fun j => entF (backE e) (2 + j)) (fun j hj => by rw [Nat.add_assoc _ 2 j]; exact cb (2 + j) (by unfold n32 at hj; omega))
    have e4 : (backE e).id = e.id := by unfold backE; split <;> rfl
    rw [ent_id (by rw [e4]; exact h32), e4] at this; exact this
  have a0 : w.cell? ⟨g, o + k * n35, none⟩ = some (.string ⟨e.name.toArray⟩) := ca 0 (by omega)
  have a1 : w.cell? ⟨g, o + k * n35 + 1, none⟩ = some (.bool e.folder) := ca 1 (by omega)
  have b0 : w.cell? ⟨g2, o2 + k * n35, none⟩ = some (.string ⟨e.name.toArray⟩) := by
    have := cb 0 (by omega)
    rw [Nat.add_zero] at this
    rw [this]; unfold backE; split <;> rfl
  have b1 : w.cell? ⟨g2, o2 + k * n35 + 1, none⟩ = some (.bool e.folder) := by
    rw [cb 1 (by omega)]; unfold backE; split <;> rfl
  have b34 : w.cell? ⟨g2, o2 + k * n35 + 34, none⟩ = some (.float .f64 (if e.folder = true then 0 else canonB e.stamp)) := by
    rw [cb 34 (by omega)]; unfold backE; split <;> rfl
  have hnq : ∀ W, (binOp .neq 27 (.agg (bv e.id).toArray) (.agg (bv e.id).toArray)).run Try.prog W = .ok (.bool false) W := fun W => by have h := id_neq W h32 h32; simpa using h
  clear ca cb h32
  subst hwant
  obtain ⟨en, ef, ei, es⟩ := e
  simp only at hl1 hl2 hl3 a0 a1 b0 b1 b34 hnq
  conv => enter [2]; whnf
  by_cases hy : ef = true
  · subst hy
    simp only [if_true] at b34 ⊢
    have f0 : (FloatKind.f64.format.order 0 0 != some .eq) = false := by decide
    go_quiet (fail)
    exact hK _ _ _ _ _ _ _ _ _ _ _ _ _ _ _ _ _ _ _ _ _ _ _ _ _ _ _ _ _ _ _ _ _ _ _ _ _ _ _ _ _ _ _ _ _ _ _ _ _ _ _ _ _ _ _ _ _ _ _ _ _ _ nq
  · obtain rfl : ef = false := by simpa using hy
    simp only [Bool.false_eq_true, if_false] at b34 ⊢
    by_cases hn : nanB es = true
    · have hc : canonB es = 9221120237041090560 := by unfold canonB; rw [if_pos hn]
      have f1 : (FloatKind.f64.format.order es es == some .eq) = false := by
        unfold nanB at hn
        have : (FloatKind.f64.format.order es es != some .eq) = !(FloatKind.f64.format.order es es == some .eq) := rfl
        rw [this] at hn
        simpa using hn
      rw [hc] at b34
      cases hf : (FloatKind.f64.format.order 9221120237041090560 es != some .eq) with
      | true =>
        go_quiet (fail)
        exact hK _ _ _ _ _ _ _ _ _ _ _ _ _ _ _ _ _ _ _ _ _ _ _ _ _ _ _ _ _ _ _ _ _ _ _ _ _ _ _ _ _ _ _ _ _ _ _ _ _ _ _ _ _ _ _ _ _ _ _ _ _ _ nq
      | false =>
        go_quiet (fail)
        exact hK _ _ _ _ _ _ _ _ _ _ _ _ _ _ _ _ _ _ _ _ _ _ _ _ _ _ _ _ _ _ _ _ _ _ _ _ _ _ _ _ _ _ _ _ _ _ _ _ _ _ _ _ _ _ _ _ _ _ _ _ _ _ nq
    · have hc : canonB es = es := by unfold canonB; rw [if_neg hn]
      have f1 : (FloatKind.f64.format.order es es != some .eq) = false := by
        unfold nanB at hn
        simpa using hn
      rw [hc] at b34
      go_quiet (fail)
      exact hK _ _ _ _ _ _ _ _ _ _ _ _ _ _ _ _ _ _ _ _ _ _ _ _ _ _ _ _ _ _ _ _ _ _ _ _ _ _ _ _ _ _ _ _ _ _ _ _ _ _ _ _ _ _ _ _ _ _ _ _ _ _ nq
end Go.Proofs.Ytdolonkeanlaoaa
