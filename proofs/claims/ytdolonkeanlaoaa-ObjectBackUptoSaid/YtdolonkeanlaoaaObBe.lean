/- ObjectBack's stages of the tree, of the blob. -/
import Derived.Test.YtdolonkeanlaoaaObBd
namespace Go.Proofs.Ytdolonkeanlaoaa
open Go.RowKit
attribute [local simp high] id_size id_zero ent_size ent_zero com_size com_zero n32_ne n35_ne n36_ne

theorem pblob_err {ids : List (List UInt8)} {n c : Int} (h : putBlobR ids n = .error c) : c ≠ 0 := by
  unfold putBlobR at h
  split at h
  · injection h with h; omega
  split at h
  · injection h with h; omega
  exact enc_err h
theorem fault_ne {l : List EntN} {c : Int} (h : (if orderE l ≠ 0 then (Except.error (orderE l) : Except Int (List UInt8)) else encR (treeV l)) = .error c) : c ≠ 0 := by
  split at h
  · rename_i h0; injection h with h; rw [← h]; exact h0
  · exact enc_err h
theorem ptree_err {l : List EntN} {c : Int} (h : putTreeR l = .error c) : c ≠ 0 := by
  unfold putTreeR at h
  split at h
  · injection h with h; omega
  exact fault_ne h
theorem pcom_err {x : ComN} {c : Int} (h : putComR x = .error c) : c ≠ 0 := by
  unfold putComR at h
  split at h
  · injection h with h; omega
  split at h
  · injection h with h; omega
  exact enc_err h
theorem of_ok {w w' : World} {q : List UInt8} {e : Ending} (h : EncAnswers w (.ok q) e w') : ∃ v, e = .returned (.tuple #[v, .int .i64 0]) ∧ Own w' w.heap.size v q ∧ Below w.heap.size w w' := h
/-- What the law holds: the blob, the commit, as they lie in their boxes. -/
structure BackArgs (w w2 : World) (S : Nat → Prop) (ia : Option Addr) (n ic : Nat) (ids : List (List UInt8)) (sz : Int) (tv : Value) (l : List EntN) (pa : Option Addr) (pn pc : Nat) (x : ComN) : Prop where
  hS : ∀ k, S k → k < w.heap.size
  blob : IDsC S w (.slice ia n ic) ids
  bne : ids.length = n
  bl : n ≤ 1048576
  lo : -9223372036854775808 ≤ sz
  hi : sz ≤ 9223372036854775807
  tree : EntsC S w tv l
  tll : l.length ≤ 1048576
  te : ∀ e ∈ l, e.name.length ≤ 1048576 ∧ e.id.length = 32 ∧ e.stamp < 18446744073709551616
  par : IDsC S w (.slice pa pn pc) x.parents
  pne : x.parents.length = pn
  pl : pn ≤ 1048576
  ct : x.tree.length = 32
  cs : x.stamp < 18446744073709551616
  ca : x.author.length ≤ 1048576
  cn : x.note.length ≤ 1048576
  below : Below w.heap.size w w2
  b0 : w2.heap[w.heap.size]? = some (.cells #[.slice ia n ic, .int .i64 sz] 24 (0, 0))
  b1 : RF w2 (w.heap.size + 1) 30 n36 (comF x.tree pa pn pc x.stamp x.author x.note)
  z : w2.heap.size = w.heap.size + 2
theorem same_any (S S' : Nat → Prop) (v u : Value) (I : List (List UInt8)) (w : World) (hv : IDsC S w v I) (hu : IDsC S' w u I) (hl : I.length ≤ 1048576) :
    Calls Try.prog 29 #[v, u] w fun e w' => e = .returned (.bool true) ∧ ∃ n, w' = w.drewN n :=
  (sames_any S S' v u I I w hv hu hl hl).mono fun _ _ ⟨h1, h2⟩ => ⟨by rw [h1, decide_eq_true rfl], h2⟩
theorem below_ne {B : Nat} {w w' : World} (h : Below B w w') (k : Nat) (hk : k < B) : w'.heap[k]? = w.heap[k]? := h.block k hk
/-- What follows, whatever the scratch holds. -/
def OnAny (K : Act → World → Prop) (R : World → Prop) (v0 v1 v2 v3 v4 v5 : Value) : Prop := ∀ (u6 u7 u8 u9 u10 u11 u12 u13 u14 u15 u16 u17 u18 u19 u20 u21 u22 u23 u24 u25 u26 u27 u28 u29 u30 u31 u32 u33 u34 u35 u36 u37 u38 u39 u40 u41 u42 u43 u44 u45 u46 u47 u48 u49 u50 u51 u52 u53 u54 u55 u56 u57 u58 u59 u60 u61 u62 u63 u64 u65 u66 u67 u68 u69 u70 u71 u72 u73 u74 u75 u76 u77 u78 u79 u80 u81 u82 u83 u84 u85 u86 u87 u88 u89 u90 u91 u92 u93 u94 u95 u96 u97 u98 u99 u100 u101 u102 u103 u104 u105 u106 u107 u108 u109 u110 u111 u112 u113 u114 u115 u116 u117 u118 u119 u120 u121 u122 u123 u124 u125 u126 u127 u128 u129 u130 u131 u132 u133 u134 u135 u136 u137 u138 u139 u140 u141 u142 u143 u144 u145 u146 u147 u148 u149 u150 u151 u152 u153 u154 u155 u156 u157 u158 u159 u160 u161 u162 u163 u164 u165 u166 u167 u168 u169 u170 u171 u172 u173 u174 u175 u176 u177 u178 u179 u180 u181 u182 u183 u184 u185 u186 u187 u188 u189 u190 u191 u192 u193 u194 u195 u196 u197 u198 u199 u200 u201 u202 u203 u204 u205 u206 u207 u208 u209 u210 u211 u212 u213 u214 u215 u216 u217 u218 u219 u220 u221 u222 u223 u224 u225 u226 u227 u228 u229 u230 u231 u232 u233 u234 u235 u236 u237 u238 u239 u240 u241 u242 u243 u244 u245 u246 u247 u248 u249 u250 u251 u252 u253 : Value) (w : World), R w → K ⟨#[v0, v1, v2, v3, v4, v5, u6, u7, u8, u9, u10, u11, u12, u13, u14, u15, u16, u17, u18, u19, u20, u21, u22, u23, u24, u25, u26, u27, u28, u29, u30, u31, u32, u33, u34, u35, u36, u37, u38, u39, u40, u41, u42, u43, u44, u45, u46, u47, u48, u49, u50, u51, u52, u53, u54, u55, u56, u57, u58, u59, u60, u61, u62, u63, u64, u65, u66, u67, u68, u69, u70, u71, u72, u73, u74, u75, u76, u77, u78, u79, u80, u81, u82, u83, u84, u85, u86, u87, u88, u89, u90, u91, u92, u93, u94, u95, u96, u97, u98, u99, u100, u101, u102, u103, u104, u105, u106, u107, u108, u109, u110, u111, u112, u113, u114, u115, u116, u117, u118, u119, u120, u121, u122, u123, u124, u125, u126, u127, u128, u129, u130, u131, u132, u133, u134, u135, u136, u137, u138, u139, u140, u141, u142, u143, u144, u145, u146, u147, u148, u149, u150, u151, u152, u153, u154, u155, u156, u157, u158, u159, u160, u161, u162, u163, u164, u165, u166, u167, u168, u169, u170, u171, u172, u173, u174, u175, u176, u177, u178, u179, u180, u181, u182, u183, u184, u185, u186, u187, u188, u189, u190, u191, u192, u193, u194, u195, u196, u197, u198, u199, u200, u201, u202, u203, u204, u205, u206, u207, u208, u209, u210, u211, u212, u213, u214, u215, u216, u217, u218, u219, u220, u221, u222, u223, u224, u225, u226, u227, u228, u229, u230, u231, u232, u233, u234, u235, u236, u237, u238, u239, u240, u241, u242, u243, u244, u245, u246, u247, u248, u249, u250, u251, u252, u253], []⟩ w
set_option maxRecDepth 100000 in
set_option maxHeartbeats 8000000 in
theorem back_tree {S : Nat → Prop} {ia : Option Addr} {n ic : Nat} {ids : List (List UInt8)} {sz : Int} {ta : Option Addr} {tn tc : Nat} {l : List EntN} {pa : Option Addr} {pn pc : Nat} {x : ComN} {w w2 wB : World} {K : Act → World → Prop} {Q : Exit → Act → World → Prop} {v0 v2 v4 v6 v7 v8 v9 v10 v11 v12 v13 v14 v15 v16 v17 v18 v19 v20 v21 v22 v23 v24 v25 v26 v27 v28 v29 v30 v31 v32 v33 v34 v35 v36 v37 v38 v39 v40 v41 v42 v43 v44 v45 v46 v47 v48 v49 v50 v51 v52 v53 v54 v55 v56 v57 v58 v59 v60 v61 v62 v63 v64 v65 v66 v67 v68 v69 v70 v71 v72 v73 v74 v75 v76 v77 v78 v79 v80 v81 v82 v83 v84 v85 v86 v87 v88 v89 v90 v91 v92 v93 v94 v95 v96 v97 v98 v99 v100 v101 v102 v103 v104 v105 v106 v107 v108 v109 v110 v111 v112 v113 v114 v115 v116 v117 v118 v119 v120 v121 v122 v123 v124 v125 v126 v127 v128 v129 v130 v131 v132 v133 v134 v135 v136 v137 v138 v139 v140 v141 v142 v143 v144 v145 v146 v147 v148 v149 v150 v151 v152 v153 v154 v155 v156 v157 v158 v159 v160 v161 v162 v163 v164 v165 v166 v167 v168 v169 v170 v171 v172 v173 v174 v175 v176 v177 v178 v179 v180 v181 v182 v183 v184 v185 v186 v187 v188 v189 v190 v191 v192 v193 v194 v195 v196 v197 v198 v199 v200 v201 v202 v203 v204 v205 v206 v207 v208 v209 v210 v211 v212 v213 v214 v215 v216 v217 v218 v219 v220 v221 v222 v223 v224 v225 v226 v227 v228 v229 v230 v231 v232 v233 v234 v235 v236 v237 v238 v239 v240 v241 v242 v243 v244 v245 v246 v247 v248 v249 v250 v251 v252 v253 : Value}
    (HA : Hid (BackArgs w w2 S ia n ic ids sz (.slice ta tn tc) l pa pn pc x)) (HTN : Hid (l.length = tn)) (HB : Hid (Below w2.heap.size w2 wB))
    (HK : OnAny K (fun w' => Hid (Below w2.heap.size w2 w')) v0 (.slice ta tn tc) v2 (.pointer (some ⟨w.heap.size, 0, none⟩)) v4 (.pointer (some ⟨w.heap.size + 1, 0, none⟩))) :
    Code.wp Try.prog (fstC (sndC (sndC (sndC (Try.f5.body.getD .skip))))) (Exit.then K Q) ⟨#[v0, .slice ta tn tc, v2, .pointer (some ⟨w.heap.size, 0, none⟩), v4, .pointer (some ⟨w.heap.size + 1, 0, none⟩), v6, v7, v8, v9, v10, v11, v12, v13, v14, v15, v16, v17, v18, v19, v20, v21, v22, v23, v24, v25, v26, v27, v28, v29, v30, v31, v32, v33, v34, v35, v36, v37, v38, v39, v40, v41, v42, v43, v44, v45, v46, v47, v48, v49, v50, v51, v52, v53, v54, v55, v56, v57, v58, v59, v60, v61, v62, v63, v64, v65, v66, v67, v68, v69, v70, v71, v72, v73, v74, v75, v76, v77, v78, v79, v80, v81, v82, v83, v84, v85, v86, v87, v88, v89, v90, v91, v92, v93, v94, v95, v96, v97, v98, v99, v100, v101, v102, v103, v104, v105, v106, v107, v108, v109, v110, v111, v112, v113, v114, v115, v116, v117, v118, v119, v120, v121, v122, v123, v124, v125, v126, v127, v128, v129, v130, v131, v132, v133, v134, v135, v136, v137, v138, v139, v140, v141, v142, v143, v144, v145, v146, v147, v148, v149, v150, v151, v152, v153, v154, v155, v156, v157, v158, v159, v160, v161, v162, v163, v164, v165, v166, v167, v168, v169, v170, v171, v172, v173, v174, v175, v176, v177, v178, v179, v180, v181, v182, v183, v184, v185, v186, v187, v188, v189, v190, v191, v192, v193, v194, v195, v196, v197, v198, v199, v200, v201, v202, v203, v204, v205, v206, v207, v208, v209, v210, v211, v212, v213, v214, v215, v216, v217, v218, v219, v220, v221, v222, v223, v224, v225, v226, v227, v228, v229, v230, v231, v232, v233, v234, v235, v236, v237, v238, v239, v240, v241, v242, v243, v244, v245, v246, v247, v248, v249, v250, v251, v252, v253], []⟩ wB := by
  have HZ2 : Hid (w2.heap.size = w.heap.size + 2) := Lib.hid HA.out.z
  conv => enter [2]; whnf
  have A := HA.out
  have HTE : Hid (∀ W, Below w.heap.size w W → EntsC S W (.slice ta tn tc) l) := Lib.hid (fun W hW => RowsC.kept ent_keeps A.tree (fun q hq => ⟨hq, hW.block q (A.hS q hq)⟩))
  have HBW : Hid (Below w.heap.size w w2) := Lib.hid A.below
  have HP := Lib.hid (ptree_any S (.slice ta tn tc) l wB (fun q hq => by have := A.hS q hq; have := HB.out.size; have := HZ2.out; omega) (HTE.out wB (HBW.out.trans (HB.out.mono HBW.out.size))) A.tll A.te)
  obtain ⟨r, hr⟩ : ∃ r, putTreeR l = r := ⟨_, rfl⟩
  rw [hr] at HP
  cases r with
  | error c =>
    have g : (c == 0) = false := by rw [beq_eq_false_iff_ne]; exact ptree_err hr
    clear hr A
    go_wp2_with fail
    refine HP.out.mono ?_
    rintro e w4 ⟨rfl, hb4⟩
    have HB := Lib.hid (HB.out.trans (hb4.mono HB.out.size))
    clear hb4
    go_wp2_with fail
    exact HK _ _ _ _ _ _ _ _ _ _ _ _ _ _ _ _ _ _ _ _ _ _ _ _ _ _ _ _ _ _ _ _ _ _ _ _ _ _ _ _ _ _ _ _ _ _ _ _ _ _ _ _ _ _ _ _ _ _ _ _ _ _ _ _ _ _ _ _ _ _ _ _ _ _ _ _ _ _ _ _ _ _ _ _ _ _ _ _ _ _ _ _ _ _ _ _ _ _ _ _ _ _ _ _ _ _ _ _ _ _ _ _ _ _ _ _ _ _ _ _ _ _ _ _ _ _ _ _ _ _ _ _ _ _ _ _ _ _ _ _ _ _ _ _ _ _ _ _ _ _ _ _ _ _ _ _ _ _ _ _ _ _ _ _ _ _ _ _ _ _ _ _ _ _ _ _ _ _ _ _ _ _ _ _ _ _ _ _ _ _ _ _ _ _ _ _ _ _ _ _ _ _ _ _ _ _ _ _ _ _ _ _ _ _ _ _ _ _ _ _ _ _ _ _ _ _ _ _ _ _ _ _ _ _ _ _ _ _ _ _ _ _ _ _ _ _ _ _ _ HB
  | ok q =>
    obtain ⟨hle, htq, hlq⟩ := tree_back (fun y hy => (A.te y hy).2) hr
    have HTQ := Lib.hid htq
    have HLQ := Lib.hid hlq
    have hle2 : tn ≤ 1024 := by rw [← HTN.out]; exact hle
    have HES : Hid (∀ y ∈ l, y.id.length = 32) := Lib.hid (fun y hy => (A.te y hy).2.1)
    have HSS : Hid (∀ q, S q → q < w.heap.size) := Lib.hid A.hS
    clear hr A hle htq hlq
    go_wp2_with fail
    refine HP.out.mono ?_
    intro e w4 h4
    obtain ⟨vo, rfl, hO, hb4⟩ := of_ok h4
    have HB := Lib.hid (HB.out.trans (hb4.mono HB.out.size))
    have HQ : Hid (∀ W, Below w4.heap.size w4 W → BytesC (fun k => k < w4.heap.size) W vo q) := Lib.hid (fun W hW => (own_c hO).kept (fun j hj => ⟨hj.2, hW.block j hj.2⟩))
    have HG := Lib.hid (gtree_any _ vo q w4 (fun j hj => hj) (HQ.out w4 (Below.refl _ _)))
    rw [HTQ.out] at HG
    have HL : Hid (∀ W, Below w4.heap.size w4 W → Calls Try.prog 27 #[vo] W (FaceR (IdsV W) (.slice none 0 0) W (.ok (l.map EntN.id)))) := Lib.hid (fun W hW => by rw [← HLQ.out]; exact links_any _ vo q W (fun j hj => Nat.lt_of_lt_of_le hj hW.size) (HQ.out W hW))
    obtain ⟨qa, qc, rfl⟩ := own_slice hO
    clear h4 hO hb4 HQ
    obtain ⟨qn, hqn⟩ : ∃ m, q.length = m := ⟨_, rfl⟩
    rw [hqn] at HG HL ⊢
    clear hqn
    go_wp2_with fail
    refine HG.out.mono ?_
    rintro e w5 ⟨vx, rfl, hE, hb5⟩
    obtain ⟨xa, xc, rfl⟩ := row_shape_any hE.1
    have HB5 := Lib.hid hb5
    have HB := Lib.hid (HB.out.trans (hb5.mono HB.out.size))
    have HE1 := Lib.hid (own_ents hE.1)
    rw [List.length_map, HTN.out] at HE1 ⊢
    clear hE hb5
    go_wp2_with fail
    refine (HL.out _ HB5.out).mono ?_
    rintro e w7 ⟨vl, rfl, hV, hb7⟩
    obtain ⟨la, lc, rfl⟩ := row_shape_any hV.1
    have HB7 := Lib.hid hb7
    have HB := Lib.hid (HB.out.trans (hb7.mono HB.out.size))
    have HI2 := Lib.hid (own_ids hV.1 hV.2)
    rw [List.length_map, HTN.out] at HI2 ⊢
    clear hV hb7
    have HBWW : Hid (Below w.heap.size w w7) := Lib.hid (HBW.out.trans (HB.out.mono HBW.out.size))
    go_wp2_with fail
    go_loopw [113] (fun i wr => ∃ k : Nat, k ≤ tn ∧ i = .int .i64 (k : Int) ∧ Hid (∃ m, wr = w7.drewN m)) (fun i _ => tn - (intOf i).toNat)
    case atStart => exact ⟨0, Nat.zero_le _, rfl, Lib.hid ⟨0, rfl⟩⟩
    case round =>
      obtain ⟨k, hk, rfl, hW⟩ := hrel
      by_cases hlt : k < tn
      · obtain ⟨nw, hnw⟩ := hW.out
        have hw7 : Below w7.heap.size w7 wr := by rw [hnw]; exact drewn _ _ _
        have hEa : EntsC S wr (.slice ta l.length tc) l := by rw [HTN.out]; exact HTE.out wr (HBWW.out.trans (hw7.mono HBWW.out.size))
        have hEb : EntsC (fun j => w4.heap.size ≤ j ∧ j < w5.heap.size) wr (.slice xa (l.map backE).length xc) (l.map backE) := by rw [List.length_map, HTN.out]; exact RowsC.kept ent_keeps HE1.out (fun j hj => ⟨hj, (hw7.block j (by have := hj.2; have := HB7.out.size; omega)).trans (HB7.out.block j hj.2)⟩)
        have hIc : IDsC (fun j => w5.heap.size ≤ j ∧ j < w7.heap.size) wr (.slice la (l.map EntN.id).length lc) (l.map EntN.id) := by rw [List.length_map, HTN.out]; exact HI2.out.kept (fun j hj => ⟨hj, by rw [hnw]; rfl⟩)
        obtain ⟨g, o, rfl, _, _, _, ca⟩ := EntsC.at hEa (by rw [HTN.out]; omega)
        obtain ⟨g2, o2, rfl, _, _, _, cb⟩ := EntsC.at hEb (by rw [List.length_map, HTN.out]; omega)
        obtain ⟨b3, rfl, _, _, _⟩ := hIc.at (by rw [List.length_map, HTN.out]; omega)
        have hkl : k < l.length := by rw [HTN.out]; exact hlt
        have hca := ca k hkl
        have hcb := cb k (by rw [List.length_map]; exact hkl)
        have e2 : (l.map backE).getD k noEnt = backE (l.getD k noEnt) := by simp [List.getD, hkl]
        rw [e2] at hcb
        have e3 : (l.map EntN.id).getD k [] = (l.getD k noEnt).id := by simp [List.getD, hkl]
        have hl3 : ∀ nq, (loadCellsFrom (b3.add (k * n32)) 0 n32 #[]).run Try.prog (wr.drewN nq) = .ok (bv (l.getD k noEnt).id).toArray (wr.drewN nq) := fun nq => by
          have := (hIc.kept (S' := fun j => w5.heap.size ≤ j ∧ j < w7.heap.size) (w' := wr.drewN nq) (fun j hj => ⟨hj, rfl⟩)).cells k (by rw [List.length_map]; exact hkl)
          rw [e3] at this; exact this
        have h32 : (l.getD k noEnt).id.length = 32 := HES.out _ (getD_mem hkl)
        generalize l.getD k noEnt = e at *
        have a1 : wr.cell? ⟨g, o + k * n35 + 1, none⟩ = some (.bool e.folder) := hca 1 (by omega)
        have a34 : wr.cell? ⟨g, o + k * n35 + 34, none⟩ = some (.float .f64 e.stamp) := hca 34 (by omega)
        have HCA := Lib.hid hca
        have HCB := Lib.hid hcb
        have HL3 := Lib.hid hl3
        have H32 := Lib.hid h32
        clear hEa hEb hIc ca cb hkl hca hcb hl3 e2 e3 h32 hw7 hnw
        cases hef : e.folder with
        | true =>
          rw [hef] at a1
          have HW : Hid ((0 : Nat) = if e.folder = true then 0 else e.stamp) := Lib.hid (by rw [hef]; rfl)
          clear hef
          go_upto_region 21 with fail
          refine entry_same hlt HW.out HCA.out HCB.out H32.out HL3.out ?_
          intro u126 u127 u128 u129 u130 u131 u132 u133 u134 u135 u136 u137 u138 u139 u140 u141 u142 u143 u144 u145 u146 u147 u148 u149 u150 u151 u152 u153 u154 u155 u156 u157 u158 u159 u160 u161 u162 u163 u164 u165 u166 u167 u168 u169 u170 u171 u172 u173 u174 u175 u176 u177 u178 u179 u180 u181 u182 u183 u184 u185 u186 u187 nq
          go_wp2_with fail
          go_roundw
          case rel => exact ⟨k + 1, by omega, by go_num, Lib.hid (by obtain ⟨nw, hnw⟩ := hW.out; rw [hnw]; exact ⟨_, World.drewN_drewN _ _ _⟩)⟩
          case measure => simp [intOf]; omega
        | false =>
          rw [hef] at a1
          have HW : Hid (e.stamp = if e.folder = true then 0 else e.stamp) := Lib.hid (by rw [hef]; rfl)
          clear hef
          go_upto_region 21 with fail
          refine entry_same hlt HW.out HCA.out HCB.out H32.out HL3.out ?_
          intro u126 u127 u128 u129 u130 u131 u132 u133 u134 u135 u136 u137 u138 u139 u140 u141 u142 u143 u144 u145 u146 u147 u148 u149 u150 u151 u152 u153 u154 u155 u156 u157 u158 u159 u160 u161 u162 u163 u164 u165 u166 u167 u168 u169 u170 u171 u172 u173 u174 u175 u176 u177 u178 u179 u180 u181 u182 u183 u184 u185 u186 u187 nq
          go_wp2_with fail
          go_roundw
          case rel => exact ⟨k + 1, by omega, by go_num, Lib.hid (by obtain ⟨nw, hnw⟩ := hW.out; rw [hnw]; exact ⟨_, World.drewN_drewN _ _ _⟩)⟩
          case measure => simp [intOf]; omega
      · go_wp2_with fail
        obtain ⟨m, hm⟩ := hW.out; have hf : Hid (Below w2.heap.size w2 wr) := Lib.hid (by rw [hm]; exact HB.out.trans ((drewn _ w7 m).mono HB.out.size))
        exact HK _ _ _ _ _ _ _ _ _ _ _ _ _ _ _ _ _ _ _ _ _ _ _ _ _ _ _ _ _ _ _ _ _ _ _ _ _ _ _ _ _ _ _ _ _ _ _ _ _ _ _ _ _ _ _ _ _ _ _ _ _ _ _ _ _ _ _ _ _ _ _ _ _ _ _ _ _ _ _ _ _ _ _ _ _ _ _ _ _ _ _ _ _ _ _ _ _ _ _ _ _ _ _ _ _ _ _ _ _ _ _ _ _ _ _ _ _ _ _ _ _ _ _ _ _ _ _ _ _ _ _ _ _ _ _ _ _ _ _ _ _ _ _ _ _ _ _ _ _ _ _ _ _ _ _ _ _ _ _ _ _ _ _ _ _ _ _ _ _ _ _ _ _ _ _ _ _ _ _ _ _ _ _ _ _ _ _ _ _ _ _ _ _ _ _ _ _ _ _ _ _ _ _ _ _ _ _ _ _ _ _ _ _ _ _ _ _ _ _ _ _ _ _ _ _ _ _ _ _ _ _ _ _ _ _ _ _ _ _ _ _ _ _ _ _ _ _ _ _ hf
set_option maxRecDepth 100000 in
set_option maxHeartbeats 8000000 in
theorem back_blob {S : Nat → Prop} {ia : Option Addr} {n ic : Nat} {ids : List (List UInt8)} {sz : Int} {ta : Option Addr} {tn tc : Nat} {l : List EntN} {pa : Option Addr} {pn pc : Nat} {x : ComN} {w w2 wB : World} {K : Act → World → Prop} {Q : Exit → Act → World → Prop} {v0 v2 v4 v6 v7 v8 v9 v10 v11 v12 v13 v14 v15 v16 v17 v18 v19 v20 v21 v22 v23 v24 v25 v26 v27 v28 v29 v30 v31 v32 v33 v34 v35 v36 v37 v38 v39 v40 v41 v42 v43 v44 v45 v46 v47 v48 v49 v50 v51 v52 v53 v54 v55 v56 v57 v58 v59 v60 v61 v62 v63 v64 v65 v66 v67 v68 v69 v70 v71 v72 v73 v74 v75 v76 v77 v78 v79 v80 v81 v82 v83 v84 v85 v86 v87 v88 v89 v90 v91 v92 v93 v94 v95 v96 v97 v98 v99 v100 v101 v102 v103 v104 v105 v106 v107 v108 v109 v110 v111 v112 v113 v114 v115 v116 v117 v118 v119 v120 v121 v122 v123 v124 v125 v126 v127 v128 v129 v130 v131 v132 v133 v134 v135 v136 v137 v138 v139 v140 v141 v142 v143 v144 v145 v146 v147 v148 v149 v150 v151 v152 v153 v154 v155 v156 v157 v158 v159 v160 v161 v162 v163 v164 v165 v166 v167 v168 v169 v170 v171 v172 v173 v174 v175 v176 v177 v178 v179 v180 v181 v182 v183 v184 v185 v186 v187 v188 v189 v190 v191 v192 v193 v194 v195 v196 v197 v198 v199 v200 v201 v202 v203 v204 v205 v206 v207 v208 v209 v210 v211 v212 v213 v214 v215 v216 v217 v218 v219 v220 v221 v222 v223 v224 v225 v226 v227 v228 v229 v230 v231 v232 v233 v234 v235 v236 v237 v238 v239 v240 v241 v242 v243 v244 v245 v246 v247 v248 v249 v250 v251 v252 v253 : Value}
    (HA : Hid (BackArgs w w2 S ia n ic ids sz (.slice ta tn tc) l pa pn pc x)) (HB : Hid (Below w2.heap.size w2 wB))
    (HK : OnAny K (fun w' => Hid (Below w2.heap.size w2 w')) v0 (.slice ta tn tc) v2 (.pointer (some ⟨w.heap.size, 0, none⟩)) v4 (.pointer (some ⟨w.heap.size + 1, 0, none⟩))) :
    Code.wp Try.prog (fstC (sndC (sndC (Try.f5.body.getD .skip)))) (Exit.then K Q) ⟨#[v0, .slice ta tn tc, v2, .pointer (some ⟨w.heap.size, 0, none⟩), v4, .pointer (some ⟨w.heap.size + 1, 0, none⟩), v6, v7, v8, v9, v10, v11, v12, v13, v14, v15, v16, v17, v18, v19, v20, v21, v22, v23, v24, v25, v26, v27, v28, v29, v30, v31, v32, v33, v34, v35, v36, v37, v38, v39, v40, v41, v42, v43, v44, v45, v46, v47, v48, v49, v50, v51, v52, v53, v54, v55, v56, v57, v58, v59, v60, v61, v62, v63, v64, v65, v66, v67, v68, v69, v70, v71, v72, v73, v74, v75, v76, v77, v78, v79, v80, v81, v82, v83, v84, v85, v86, v87, v88, v89, v90, v91, v92, v93, v94, v95, v96, v97, v98, v99, v100, v101, v102, v103, v104, v105, v106, v107, v108, v109, v110, v111, v112, v113, v114, v115, v116, v117, v118, v119, v120, v121, v122, v123, v124, v125, v126, v127, v128, v129, v130, v131, v132, v133, v134, v135, v136, v137, v138, v139, v140, v141, v142, v143, v144, v145, v146, v147, v148, v149, v150, v151, v152, v153, v154, v155, v156, v157, v158, v159, v160, v161, v162, v163, v164, v165, v166, v167, v168, v169, v170, v171, v172, v173, v174, v175, v176, v177, v178, v179, v180, v181, v182, v183, v184, v185, v186, v187, v188, v189, v190, v191, v192, v193, v194, v195, v196, v197, v198, v199, v200, v201, v202, v203, v204, v205, v206, v207, v208, v209, v210, v211, v212, v213, v214, v215, v216, v217, v218, v219, v220, v221, v222, v223, v224, v225, v226, v227, v228, v229, v230, v231, v232, v233, v234, v235, v236, v237, v238, v239, v240, v241, v242, v243, v244, v245, v246, v247, v248, v249, v250, v251, v252, v253], []⟩ wB := by
  have HZ2 : Hid (w2.heap.size = w.heap.size + 2) := Lib.hid HA.out.z
  conv => enter [2]; whnf
  have A := HA.out
  have c0 : wB.cell? ⟨w.heap.size, 0, none⟩ = some (.slice ia n ic) := by
    rw [World.cell?_of_block (w := w2) (HB.out.block _ (show w.heap.size < w2.heap.size by rw [HZ2.out]; omega)), cell_of_row _ _ _ _ _ _ A.b0]; rfl
  have c1 : wB.cell? ⟨w.heap.size, 1, none⟩ = some (.int .i64 sz) := by
    rw [World.cell?_of_block (w := w2) (HB.out.block _ (show w.heap.size < w2.heap.size by rw [HZ2.out]; omega)), cell_of_row _ _ _ _ _ _ A.b0]; rfl
  have hI3 : IDsC S wB (.slice ia n ic) ids := A.blob.kept (fun q hq => ⟨hq, (HB.out.block q (by have := A.hS q hq; have := HZ2.out; omega)).trans (A.below.block q (A.hS q hq))⟩)
  have HP := Lib.hid (pblob_any S ia n ic ids sz wB (fun q hq => by have := A.hS q hq; have := HB.out.size; have := HZ2.out; omega) A.bne hI3 A.bl A.lo A.hi)
  clear hI3
  obtain ⟨r, hr⟩ : ∃ r, putBlobR ids sz = r := ⟨_, rfl⟩
  rw [hr] at HP
  cases r with
  | error c =>
    have g : (c == 0) = false := by rw [beq_eq_false_iff_ne]; exact pblob_err hr
    clear hr A
    go_wp2_with fail
    refine HP.out.mono ?_
    rintro e w4 ⟨rfl, hb4⟩
    have HB := Lib.hid (HB.out.trans (hb4.mono HB.out.size))
    clear hb4
    go_wp2_with fail
    exact HK _ _ _ _ _ _ _ _ _ _ _ _ _ _ _ _ _ _ _ _ _ _ _ _ _ _ _ _ _ _ _ _ _ _ _ _ _ _ _ _ _ _ _ _ _ _ _ _ _ _ _ _ _ _ _ _ _ _ _ _ _ _ _ _ _ _ _ _ _ _ _ _ _ _ _ _ _ _ _ _ _ _ _ _ _ _ _ _ _ _ _ _ _ _ _ _ _ _ _ _ _ _ _ _ _ _ _ _ _ _ _ _ _ _ _ _ _ _ _ _ _ _ _ _ _ _ _ _ _ _ _ _ _ _ _ _ _ _ _ _ _ _ _ _ _ _ _ _ _ _ _ _ _ _ _ _ _ _ _ _ _ _ _ _ _ _ _ _ _ _ _ _ _ _ _ _ _ _ _ _ _ _ _ _ _ _ _ _ _ _ _ _ _ _ _ _ _ _ _ _ _ _ _ _ _ _ _ _ _ _ _ _ _ _ _ _ _ _ _ _ _ _ _ _ _ _ _ _ _ _ _ _ _ _ _ _ _ _ _ _ _ _ _ _ _ _ _ _ _ HB
  | ok q =>
    obtain ⟨hlo, hhi, hle, hbq, hlq⟩ := blob_back A.blob.len_all hr
    obtain ⟨k, rfl⟩ : ∃ k : Nat, sz = (k : Int) := ⟨sz.toNat, by omega⟩
    rw [Int.toNat_natCast] at hbq
    have hne := A.bne
    have hnl : n ≤ 1048576 := A.bl
    have HBL : Hid (∀ W, Below w.heap.size w W → IDsC S W (.slice ia n ic) ids) := Lib.hid (fun W hW => A.blob.kept (fun q hq => ⟨hq, hW.block q (A.hS q hq)⟩))
    have HBW : Hid (Below w.heap.size w w2) := Lib.hid A.below
    have HC : Hid (∀ W, Below w2.heap.size w2 W → W.cell? ⟨w.heap.size, 0, none⟩ = some (.slice ia n ic) ∧ W.cell? ⟨w.heap.size, 1, none⟩ = some (.int .i64 (k : Int))) := Lib.hid (fun W hW => by
      rw [World.cell?_of_block (w := w2) (hW.block _ (show w.heap.size < w2.heap.size by rw [HZ2.out]; omega)), World.cell?_of_block (w := w2) (hW.block _ (show w.heap.size < w2.heap.size by rw [HZ2.out]; omega)), cell_of_row _ _ _ _ _ _ A.b0, cell_of_row _ _ _ _ _ _ A.b0]
      exact ⟨rfl, rfl⟩)
    have HBQ := Lib.hid hbq
    have HLQ := Lib.hid hlq
    have HNE := Lib.hid hne
    clear hr A hlo hhi hle hbq hlq hne
    go_wp2_with fail
    refine HP.out.mono ?_
    intro e w4 h4
    obtain ⟨vo, rfl, hO, hb4⟩ := of_ok h4
    have HB := Lib.hid (HB.out.trans (hb4.mono HB.out.size))
    have HQ : Hid (∀ W, Below w4.heap.size w4 W → BytesC (fun k => k < w4.heap.size) W vo q) := Lib.hid (fun W hW => (own_c hO).kept (fun j hj => ⟨hj.2, hW.block j hj.2⟩))
    have HG := Lib.hid (gblob_any _ vo q w4 (fun j hj => hj) (HQ.out w4 (Below.refl _ _)))
    rw [HBQ.out] at HG
    have HL : Hid (∀ W, Below w4.heap.size w4 W → Calls Try.prog 27 #[vo] W (FaceR (IdsV W) (.slice none 0 0) W (.ok ids))) := Lib.hid (fun W hW => by rw [← HLQ.out]; exact links_any _ vo q W (fun j hj => Nat.lt_of_lt_of_le hj hW.size) (HQ.out W hW))
    obtain ⟨qa, qc, rfl⟩ := own_slice hO
    clear h4 hO hb4 c0 c1 HQ
    obtain ⟨qn, hqn⟩ : ∃ m, q.length = m := ⟨_, rfl⟩
    rw [hqn] at HG HL ⊢
    clear hqn
    go_wp2_with fail
    refine HG.out.mono ?_
    rintro e w5 ⟨vx, rfl, ⟨vi, rfl, hI, hn⟩, hb5⟩
    obtain ⟨xa, xc, rfl⟩ := row_shape_any hI.1
    have HB5 := Lib.hid hb5
    have HB := Lib.hid (HB.out.trans (hb5.mono HB.out.size))
    have HI1 := Lib.hid (own_ids hI.1 hI.2)
    simp only at HI1 ⊢
    rw [HNE.out] at HI1 ⊢
    have hblk := new_five w5 #[.slice xa n xc, .int .i64 (k : Int)] 24
    have HKB := Lib.hid hblk
    have HB6 := Lib.hid ((Below.refl w5.heap.size w5).alloc (Nat.le_refl _) (.cells #[.slice xa n xc, .int .i64 (k : Int)] 24))
    have HZ6 : Hid ((w5.alloc (.cells #[.slice xa n xc, .int .i64 (k : Int)] 24)).heap.size = w5.heap.size + 1) := Lib.hid (by simp)
    clear hI hn hb5 hblk
    go_wp2_with fail
    refine (HL.out _ (HB5.out.trans (HB6.out.mono HB5.out.size))).mono ?_
    rintro e w7 ⟨vl, rfl, hV, hb7⟩
    obtain ⟨la, lc, rfl⟩ := row_shape_any hV.1
    generalize w5.alloc (.cells #[.slice xa n xc, .int .i64 (k : Int)] 24) = w6 at *
    have hk7 : w7.heap[w5.heap.size]? = some (.cells #[.slice xa n xc, .int .i64 (k : Int)] 24 (0, 0)) := (hb7.block _ (by rw [HZ6.out]; omega)).trans HKB.out
    obtain ⟨⟨e0, e1⟩, _⟩ := two_new _ _ _ hk7
    have HB57 : Hid (Below w5.heap.size w5 w7) := Lib.hid (HB6.out.trans (hb7.mono HB6.out.size))
    have HB := Lib.hid (HB.out.trans (HB57.out.mono HB.out.size))
    obtain ⟨p0, p1⟩ := HC.out w7 HB.out
    have HI2 := own_ids hV.1 hV.2
    rw [HNE.out] at HI2 ⊢
    have HQ1 := Lib.hid (same_any (fun j => w4.heap.size ≤ j ∧ j < w5.heap.size) S (.slice xa n xc) (.slice ia n ic) ids w7 (HI1.out.kept (fun j hj => ⟨hj, HB57.out.block j hj.2⟩)) (HBL.out w7 (HBW.out.trans (HB.out.mono HBW.out.size))) (by rw [HNE.out]; exact hnl))
    have HQ2 : Hid (∀ m, Calls Try.prog 29 #[.slice la n lc, .slice ia n ic] (w7.drewN m) fun e w' => e = .returned (.bool true) ∧ ∃ j, w' = (w7.drewN m).drewN j) := Lib.hid (fun m => same_any (fun j => w6.heap.size ≤ j ∧ j < w7.heap.size) S _ _ ids (w7.drewN m) (HI2.kept (fun j hj => ⟨hj, rfl⟩)) ((HBL.out w7 (HBW.out.trans (HB.out.mono HBW.out.size))).kept (fun j hj => ⟨hj, rfl⟩)) (by rw [HNE.out]; exact hnl))
    clear hV hb7 hk7 HI2
    go_wp2_with fail
    refine HQ1.out.mono ?_
    rintro e w8 ⟨rfl, m1, rfl⟩
    go_wp2_with fail
    refine (HQ2.out m1).mono ?_
    rintro e w9 ⟨rfl, m2, rfl⟩
    go_wp2_with fail
    have hf : Hid (Below w2.heap.size w2 (w7.drewN (m1 + m2))) := Lib.hid (HB.out.trans ((drewn _ w7 (m1 + m2)).mono HB.out.size))
    exact HK _ _ _ _ _ _ _ _ _ _ _ _ _ _ _ _ _ _ _ _ _ _ _ _ _ _ _ _ _ _ _ _ _ _ _ _ _ _ _ _ _ _ _ _ _ _ _ _ _ _ _ _ _ _ _ _ _ _ _ _ _ _ _ _ _ _ _ _ _ _ _ _ _ _ _ _ _ _ _ _ _ _ _ _ _ _ _ _ _ _ _ _ _ _ _ _ _ _ _ _ _ _ _ _ _ _ _ _ _ _ _ _ _ _ _ _ _ _ _ _ _ _ _ _ _ _ _ _ _ _ _ _ _ _ _ _ _ _ _ _ _ _ _ _ _ _ _ _ _ _ _ _ _ _ _ _ _ _ _ _ _ _ _ _ _ _ _ _ _ _ _ _ _ _ _ _ _ _ _ _ _ _ _ _ _ _ _ _ _ _ _ _ _ _ _ _ _ _ _ _ _ _ _ _ _ _ _ _ _ _ _ _ _ _ _ _ _ _ _ _ _ _ _ _ _ _ _ _ _ _ _ _ _ _ _ _ _ _ _ _ _ _ _ _ _ _ _ _ _ hf
end Go.Proofs.Ytdolonkeanlaoaa
