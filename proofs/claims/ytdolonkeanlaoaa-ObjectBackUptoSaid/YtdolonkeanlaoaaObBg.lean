/- The law ObjectBack. -/
import Derived.Test.YtdolonkeanlaoaaObBe
import Derived.Test.YtdolonkeanlaoaaObBf
import Derived.Test.YtdolonkeanlaoaaObOpen
namespace Go.Proofs.Ytdolonkeanlaoaa
open Go.RowKit
attribute [local simp high] id_size id_zero ent_size ent_zero com_size com_zero n32_ne n35_ne n36_ne

theorem nan_canon (s : Nat) : (FloatKind.f64.format.order s s != some .eq) = nanB s := rfl
set_option maxRecDepth 100000 in
set_option maxHeartbeats 8000000 in
theorem back_law (S : Nat → Prop) (ia : Option Addr) (n ic : Nat) (ids : List (List UInt8)) (sz : Int) (ta : Option Addr) (tn tc : Nat) (l : List EntN) (pa : Option Addr) (pn pc : Nat) (x : ComN) (w w2 : World)
    (hw2 : w2 = (w.alloc (.cells #[.slice ia n ic, .int .i64 sz] 24)).alloc (.cells (rowL n36 (comF x.tree pa pn pc x.stamp x.author x.note)).toArray 30)) (hA : BackArgs w w2 S ia n ic ids sz (.slice ta tn tc) l pa pn pc x) (htn : l.length = tn) :
    Calls Try.prog 5 #[.agg #[.slice ia n ic, .int .i64 sz], .slice ta tn tc, .agg (rowL n36 (comF x.tree pa pn pc x.stamp x.author x.note)).toArray] w fun e w' => e = .returned (.bool true) ∧ Below w.heap.size w w' := by
  have HA := Lib.hid hA
  obtain ⟨G, hG⟩ : ∃ G : Nat → Value, G = comF x.tree pa pn pc x.stamp x.author x.note := ⟨_, rfl⟩
  rw [← hG] at hw2 ⊢
  have HG := Lib.hid hG
  have hol := rowL_len n36 G
  have hz2 : w2.heap.size = w.heap.size + 2 := hA.z
  have HZ2 := Lib.hid hz2
  have HW2 := Lib.hid hw2
  have HTN := Lib.hid htn
  clear hw2 hA hG hz2 htn
  go_enter Try.func5, Try.ntmps5
  go_upto_region 1 with fail
  rw [← HW2.out]
  clear hol
  go_wp2_with fail
  refine (aw_try w2).mono ?_
  rintro e w3 ⟨rfl, hb1⟩
  have HB := Lib.hid hb1
  clear hb1
  go_upto_if 28 with fail
  go_step
  go_step
  go_step
  go_step
  go_step
  refine back_blob HA HB ?_
  intro u6 u7 u8 u9 u10 u11 u12 u13 u14 u15 u16 u17 u18 u19 u20 u21 u22 u23 u24 u25 u26 u27 u28 u29 u30 u31 u32 u33 u34 u35 u36 u37 u38 u39 u40 u41 u42 u43 u44 u45 u46 u47 u48 u49 u50 u51 u52 u53 u54 u55 u56 u57 u58 u59 u60 u61 u62 u63 u64 u65 u66 u67 u68 u69 u70 u71 u72 u73 u74 u75 u76 u77 u78 u79 u80 u81 u82 u83 u84 u85 u86 u87 u88 u89 u90 u91 u92 u93 u94 u95 u96 u97 u98 u99 u100 u101 u102 u103 u104 u105 u106 u107 u108 u109 u110 u111 u112 u113 u114 u115 u116 u117 u118 u119 u120 u121 u122 u123 u124 u125 u126 u127 u128 u129 u130 u131 u132 u133 u134 u135 u136 u137 u138 u139 u140 u141 u142 u143 u144 u145 u146 u147 u148 u149 u150 u151 u152 u153 u154 u155 u156 u157 u158 u159 u160 u161 u162 u163 u164 u165 u166 u167 u168 u169 u170 u171 u172 u173 u174 u175 u176 u177 u178 u179 u180 u181 u182 u183 u184 u185 u186 u187 u188 u189 u190 u191 u192 u193 u194 u195 u196 u197 u198 u199 u200 u201 u202 u203 u204 u205 u206 u207 u208 u209 u210 u211 u212 u213 u214 u215 u216 u217 u218 u219 u220 u221 u222 u223 u224 u225 u226 u227 u228 u229 u230 u231 u232 u233 u234 u235 u236 u237 u238 u239 u240 u241 u242 u243 u244 u245 u246 u247 u248 u249 u250 u251 u252 u253 wA HB
  go_step
  go_step
  refine back_tree HA HTN HB ?_
  intro u6 u7 u8 u9 u10 u11 u12 u13 u14 u15 u16 u17 u18 u19 u20 u21 u22 u23 u24 u25 u26 u27 u28 u29 u30 u31 u32 u33 u34 u35 u36 u37 u38 u39 u40 u41 u42 u43 u44 u45 u46 u47 u48 u49 u50 u51 u52 u53 u54 u55 u56 u57 u58 u59 u60 u61 u62 u63 u64 u65 u66 u67 u68 u69 u70 u71 u72 u73 u74 u75 u76 u77 u78 u79 u80 u81 u82 u83 u84 u85 u86 u87 u88 u89 u90 u91 u92 u93 u94 u95 u96 u97 u98 u99 u100 u101 u102 u103 u104 u105 u106 u107 u108 u109 u110 u111 u112 u113 u114 u115 u116 u117 u118 u119 u120 u121 u122 u123 u124 u125 u126 u127 u128 u129 u130 u131 u132 u133 u134 u135 u136 u137 u138 u139 u140 u141 u142 u143 u144 u145 u146 u147 u148 u149 u150 u151 u152 u153 u154 u155 u156 u157 u158 u159 u160 u161 u162 u163 u164 u165 u166 u167 u168 u169 u170 u171 u172 u173 u174 u175 u176 u177 u178 u179 u180 u181 u182 u183 u184 u185 u186 u187 u188 u189 u190 u191 u192 u193 u194 u195 u196 u197 u198 u199 u200 u201 u202 u203 u204 u205 u206 u207 u208 u209 u210 u211 u212 u213 u214 u215 u216 u217 u218 u219 u220 u221 u222 u223 u224 u225 u226 u227 u228 u229 u230 u231 u232 u233 u234 u235 u236 u237 u238 u239 u240 u241 u242 u243 u244 u245 u246 u247 u248 u249 u250 u251 u252 u253 wB HB
  have hst := run_storeF
  have A := HA.out
  have HPA : Hid (∀ W, Below w2.heap.size w2 W → IDsC S W (.slice pa pn pc) x.parents) := Lib.hid (fun W hW => A.par.kept (fun q hq => ⟨hq, (hW.block q (by have := A.hS q hq; have := HZ2.out; omega)).trans (A.below.block q (A.hS q hq))⟩))
  have HSS : Hid (∀ k, S k → k < w.heap.size) := Lib.hid A.hS
  have HBW : Hid (Below w.heap.size w w2) := Lib.hid A.below
  have HCT : Hid (x.tree.length = 32) := Lib.hid A.ct
  have HPN : Hid (x.parents.length = pn ∧ pn ≤ 1048576) := Lib.hid ⟨A.pne, A.pl⟩
  have hb1 : RF wB (w.heap.size + 1) 30 n36 G := by rw [HG.out]; exact A.b1.kept (HB.out.block _ (by rw [HZ2.out]; omega))
  have l1 := hb1.cells
  have HP := Lib.hid (pcom_any S pa pn pc x wB (fun q hq => by have := A.hS q hq; have := HB.out.size; have := HZ2.out; omega) A.pne (HPA.out wB HB.out) A.pl A.ct A.cs (by have := A.ca; omega) (by have := A.cn; omega))
  rw [← HG.out] at HP
  obtain ⟨r, hr⟩ : ∃ r, putComR x = r := ⟨_, rfl⟩
  rw [hr] at HP
  cases r with
  | error c =>
    have g : (c == 0) = false := by rw [beq_eq_false_iff_ne]; exact pcom_err hr
    clear hr A hb1
    go_wp2_with fail
    refine HP.out.mono ?_
    rintro e w4 ⟨rfl, hb4⟩
    have HB := Lib.hid (HB.out.trans (hb4.mono HB.out.size))
    clear hb4
    go_wp2_with fail
    go_ret
    exact ⟨rfl, HBW.out.trans (HB.out.mono HBW.out.size)⟩
  | ok q =>
    obtain ⟨hcq, hlq⟩ := com_back A.ct A.par.len_all A.cs hr
    have HCQ := Lib.hid hcq
    have HLQ := Lib.hid hlq
    clear hr A hcq hlq hb1
    go_wp2_with fail
    refine HP.out.mono ?_
    intro e w4 h4
    obtain ⟨vo, rfl, hO, hb4⟩ := of_ok h4
    have HB := Lib.hid (HB.out.trans (hb4.mono HB.out.size))
    have HBW4 := HB
    have HQ : Hid (∀ W, Below w4.heap.size w4 W → BytesC (fun k => k < w4.heap.size) W vo q) := Lib.hid (fun W hW => (own_c hO).kept (fun j hj => ⟨hj.2, hW.block j hj.2⟩))
    have HGC := Lib.hid (gcom_any _ vo q w4 (fun j hj => hj) (HQ.out w4 (Below.refl _ _)))
    rw [HCQ.out] at HGC
    have HL : Hid (∀ W, Below w4.heap.size w4 W → Calls Try.prog 27 #[vo] W (FaceR (IdsV W) (.slice none 0 0) W (.ok (x.tree :: x.parents)))) := Lib.hid (fun W hW => by rw [← HLQ.out]; exact links_any _ vo q W (fun j hj => Nat.lt_of_lt_of_le hj hW.size) (HQ.out W hW))
    obtain ⟨qa, qc, rfl⟩ := own_slice hO
    clear h4 hO hb4 l1 HQ
    obtain ⟨qn, hqn⟩ : ∃ m, q.length = m := ⟨_, rfl⟩
    rw [hqn] at HGC HL ⊢
    clear hqn
    go_wp2_with fail
    refine HGC.out.mono ?_
    rintro e w5 ⟨vx, rfl, ⟨xa, xc, rfl, hI, ht, hs⟩, hb5⟩
    simp only [backC] at hI ht hs ⊢
    rw [HPN.out.1] at hI ⊢
    have hI0 := hI
    rw [← HPN.out.1] at hI0
    obtain ⟨H, hH⟩ : ∃ H : Nat → Value, H = comF x.tree xa pn xc (canonB x.stamp) x.author x.note := ⟨_, rfl⟩
    rw [← hH]
    have h1 : OneC n36 H := by rw [hH]; exact com_one _ _ _ _ _ _ _ _
    have R0 := RF.new w5 30 n36 comZ
    have st0 := R0.write h1
    have hol := rowL_len n36 H
    have holz := rowL_len n36 comZ
    have HR := Lib.hid (R0.put H)
    have HI1 : Hid (IDsC (fun j => w4.heap.size ≤ j ∧ j < w5.heap.size) w5 (.slice xa pn xc) x.parents) := Lib.hid (by have := own_ids hI0.1 hI0.2; rw [HPN.out.1] at this; exact this)
    have HB5 := Lib.hid hb5
    have HB6 := Lib.hid (below_setRow (g := w5.heap.size) ((Below.refl w5.heap.size w5).alloc (Nat.le_refl _) (.cells (rowL n36 comZ).toArray 30)) (Nat.le_refl _) (rowL n36 H).toArray)
    have HB := Lib.hid (HB.out.trans (hb5.mono HB.out.size))
    have HH := Lib.hid hH
    clear hI hI0 ht hs hb5 h1 R0 hH
    go_wp2_with fail
    obtain ⟨w6, hw6⟩ : ∃ w6, w6 = (w5.alloc (.cells (rowL n36 comZ).toArray 30)).setRow w5.heap.size (rowL n36 H).toArray := ⟨_, rfl⟩
    rw [← hw6] at HR HB6 ⊢
    have HZ6 : Hid (w5.heap.size < w6.heap.size) := Lib.hid HR.out.lt
    clear hw6 hol holz st0
    refine (HL.out _ (HB5.out.trans (HB6.out.mono HB5.out.size))).mono ?_
    rintro e w7 ⟨vl, rfl, hV, hb7⟩
    obtain ⟨lg, lc, rfl⟩ : ∃ g c, vl = .slice (some ⟨g, 0, none⟩) (x.tree :: x.parents).length c := by
      rcases hV.1.2 with ⟨_, h2⟩ | ⟨g, cap, cur, h1, _⟩
      · simp at h2
      · exact ⟨g, cap, h1⟩
    obtain ⟨m, hm⟩ : ∃ m, (x.tree :: x.parents).length = m := ⟨_, rfl⟩
    have HMM : Hid (m = pn + 1) := Lib.hid (by rw [← hm, List.length_cons, HPN.out.1])
    have HIl0 : Hid (IDsC (fun j => w6.heap.size ≤ j ∧ j < w7.heap.size) w7 (.slice (some ⟨lg, 0, none⟩) m lc) (x.tree :: x.parents)) := Lib.hid (by have := own_ids hV.1 hV.2; rw [hm] at this; exact this)
    rw [hm]
    have HB7 := Lib.hid hb7
    have HB57 : Hid (Below w5.heap.size w5 w7) := Lib.hid (HB6.out.trans (hb7.mono HB6.out.size))
    have HB := Lib.hid (HB.out.trans (HB57.out.mono HB.out.size))
    have hA5 : RF w7 (w.heap.size + 1) 30 n36 G := by rw [HG.out]; exact HA.out.b1.kept (HB.out.block _ (by rw [HZ2.out]; omega))
    have hA23 : RF w7 w5.heap.size 30 n36 H := HR.out.kept (hb7.block _ HZ6.out)
    have c33 : w7.cell? ⟨w.heap.size + 1, 33, none⟩ = some (.float .f64 x.stamp) := by rw [hA5.cell (k := 33) (by unfold n36; omega), HG.out]; rfl
    have z1 : w7.frozen? ⟨w.heap.size + 1, 33, none⟩ = false := hA5.free 33
    have h36 := fb36 9221120237041090560
    have HNE : Hid (w.heap.size + 1 ≠ w5.heap.size ∧ w.heap.size + 1 < w5.heap.size) := Lib.hid (by have := HB5.out.size; have := HZ2.out; have := HBW4.out.size; omega)
    clear hV hb7 hm
    by_cases hn : nanB x.stamp = true
    · have HCB : Hid (canonB x.stamp = 9221120237041090560) := Lib.hid (by unfold canonB; rw [if_pos hn])
      rw [← nan_canon] at hn
      obtain ⟨w8, hw8⟩ : ∃ w8, w8 = w7.setCell ⟨w.heap.size + 1, 33, none⟩ (.float .f64 9221120237041090560) := ⟨_, rfl⟩
      have hb8 : ∀ k, k ≠ w.heap.size + 1 → w8.heap[k]? = w7.heap[k]? := fun k hk => by rw [hw8]; exact Below.heap_setCell _ _ _ _ hk
      have hz8 : w8.heap.size = w7.heap.size := by rw [hw8]; simp
      have HR5 : Hid (RF w8 (w.heap.size + 1) 30 n36 (comF x.tree pa pn pc (canonB x.stamp) x.author x.note)) := Lib.hid (by
        rw [hw8, HCB.out]
        have := hA5
        rw [HG.out] at this
        exact (this.set (k := 33) (by unfold n36; omega) _).congr (fun j _ => com_set33 _ _ _ _ _ _ _ _ j))
      have HR23 : Hid (RF w8 w5.heap.size 30 n36 (comF x.tree xa pn xc (canonB x.stamp) x.author x.note)) := Lib.hid (by rw [← HH.out]; exact hA23.kept (hb8 _ (fun e => HNE.out.1 e.symm)))
      have HIp : Hid (IDsC S w8 (.slice pa pn pc) x.parents) := Lib.hid ((HPA.out w7 HB.out).kept (fun q hq => ⟨hq, hb8 q (by have := HSS.out q hq; omega)⟩))
      have HIg : Hid (IDsC (fun j => w4.heap.size ≤ j ∧ j < w5.heap.size) w8 (.slice xa pn xc) x.parents) := Lib.hid (HI1.out.kept (fun q hq => ⟨hq, (hb8 q (by have := HBW4.out.size; have := HZ2.out; have := hq.1; omega)).trans (HB57.out.block q hq.2)⟩))
      have HIl : Hid (IDsC (fun j => w6.heap.size ≤ j ∧ j < w7.heap.size) w8 (.slice (some ⟨lg, 0, none⟩) m lc) (x.tree :: x.parents)) := Lib.hid (HIl0.out.kept (fun q hq => ⟨hq, hb8 q (by have := HNE.out.2; have := HZ6.out; have := hq.1; omega)⟩))
      have HS1 : Hid (∀ k, S k → k < w8.heap.size) := Lib.hid (fun k hk => by have := HSS.out k hk; have := HB.out.size; have := HZ2.out; omega)
      have HS2 : Hid (∀ k, (w4.heap.size ≤ k ∧ k < w5.heap.size) → k < w8.heap.size) := Lib.hid (fun k hk => by have := HB57.out.size; omega)
      have HS3 : Hid (∀ k, (w6.heap.size ≤ k ∧ k < w7.heap.size) → k < w8.heap.size) := Lib.hid (fun k hk => by omega)
      have HB8 : Hid (Below w.heap.size w w8) := Lib.hid (by rw [hw8]; exact (HBW.out.trans (HB.out.mono HBW.out.size)).setCell (p := ⟨w.heap.size + 1, 33, none⟩) (Nat.le_succ _) _)
      have HW8 := Lib.hid hw8
      have HZ8 := Lib.hid hz8
      clear hA5 hA23 hb8 hz8 hw8
      go_upto_region 31 with fail
      rw [← HW8.out]
      refine back_end (X := x.tree) (au := x.author) (no := x.note) (I := x.parents) (s := canonB x.stamp) (pa := pa) (ga := xa) (pc := pc) (gc := xc) HR5.out HR23.out HCT.out HIp.out HIg.out HIl.out HMM.out HPN.out.1 HPN.out.2 HS1.out HS2.out HS3.out (fun _ _ _ _ _ h => h) ?_
      intro v0 v1 v2 v3 v4 v5 v7 v8 v9 v10 v11 v12 v13 v14 v15 v16 v17 v18 v19 v20 v21 v22 v23 v24 v25 v26 v27 v28 v29 v30 v31 v32 v33 v34 v35 v36 v37 v38 v39 v40 v41 v42 v43 v44 v45 v46 v47 v48 v49 v50 v51 v52 v53 v54 v55 v56 v57 v58 v59 v60 v61 v62 v63 v64 v65 v66 v67 v68 v69 v70 v71 v72 v73 v74 v75 v76 v77 v78 v79 v80 v81 v82 v83 v84 v85 v86 v87 v88 v89 v90 v91 v92 v93 v94 v95 v96 v97 v98 v99 v100 v101 v102 v103 v104 v105 v106 v107 v108 v109 v110 v111 v112 v113 v114 v115 v116 v117 v118 v119 v120 v121 v122 v123 v124 v125 v126 v127 v128 v129 v130 v131 v132 v133 v134 v135 v136 v137 v138 v139 v140 v141 v142 v143 v144 v145 v146 v147 v148 v149 v150 v151 v152 v153 v154 v155 v156 v157 v158 v159 v160 v161 v162 v163 v164 v165 v166 v167 v168 v169 v170 v171 v172 v173 v174 v175 v176 v177 v178 v179 v180 v181 v182 v183 v184 v185 v186 v187 v188 v189 v190 v191 v192 v193 v194 v195 v196 v197 v198 v199 v200 v201 v202 v203 v204 v205 v206 v207 v208 v209 v210 v211 v212 v213 v214 v215 v216 v217 v218 v219 v220 v221 v222 v223 v224 v225 v226 v227 v228 v229 v230 v231 v232 v233 v234 v235 v236 v237 v238 v239 v240 v241 v242 v243 v244 v245 v246 v247 v248 v249 v250 v251 v252 v253 wz HBZ
      go_wp2_with fail
      go_ret
      exact ⟨rfl, HB8.out.trans (HBZ.out.mono HB8.out.size)⟩
    · have hcb : canonB x.stamp = x.stamp := by unfold canonB; rw [if_neg hn]
      rw [← nan_canon] at hn
      have hn' : (FloatKind.f64.format.order x.stamp x.stamp != some .eq) = false := by simpa using hn
      have HR5 : Hid (RF w7 (w.heap.size + 1) 30 n36 (comF x.tree pa pn pc (canonB x.stamp) x.author x.note)) := Lib.hid (by rw [hcb, ← HG.out]; exact hA5)
      have HR23 : Hid (RF w7 w5.heap.size 30 n36 (comF x.tree xa pn xc (canonB x.stamp) x.author x.note)) := Lib.hid (by rw [← HH.out]; exact hA23)
      have HIp : Hid (IDsC S w7 (.slice pa pn pc) x.parents) := Lib.hid (HPA.out w7 HB.out)
      have HIg : Hid (IDsC (fun j => w4.heap.size ≤ j ∧ j < w5.heap.size) w7 (.slice xa pn xc) x.parents) := Lib.hid (HI1.out.kept (fun q hq => ⟨hq, HB57.out.block q hq.2⟩))
      have HS1 : Hid (∀ k, S k → k < w7.heap.size) := Lib.hid (fun k hk => by have := HSS.out k hk; have := HB.out.size; have := HZ2.out; omega)
      have HS2 : Hid (∀ k, (w4.heap.size ≤ k ∧ k < w5.heap.size) → k < w7.heap.size) := Lib.hid (fun k hk => by have := HB57.out.size; omega)
      have HS3 : Hid (∀ k, (w6.heap.size ≤ k ∧ k < w7.heap.size) → k < w7.heap.size) := Lib.hid (fun k hk => hk.2)
      have HB8 : Hid (Below w.heap.size w w7) := Lib.hid (HBW.out.trans (HB.out.mono HBW.out.size))
      clear hA5 hA23 hcb hn
      go_upto_region 31 with fail
      refine back_end (X := x.tree) (au := x.author) (no := x.note) (I := x.parents) (s := canonB x.stamp) (pa := pa) (ga := xa) (pc := pc) (gc := xc) HR5.out HR23.out HCT.out HIp.out HIg.out HIl0.out HMM.out HPN.out.1 HPN.out.2 HS1.out HS2.out HS3.out (fun _ _ _ _ _ h => h) ?_
      intro v0 v1 v2 v3 v4 v5 v7 v8 v9 v10 v11 v12 v13 v14 v15 v16 v17 v18 v19 v20 v21 v22 v23 v24 v25 v26 v27 v28 v29 v30 v31 v32 v33 v34 v35 v36 v37 v38 v39 v40 v41 v42 v43 v44 v45 v46 v47 v48 v49 v50 v51 v52 v53 v54 v55 v56 v57 v58 v59 v60 v61 v62 v63 v64 v65 v66 v67 v68 v69 v70 v71 v72 v73 v74 v75 v76 v77 v78 v79 v80 v81 v82 v83 v84 v85 v86 v87 v88 v89 v90 v91 v92 v93 v94 v95 v96 v97 v98 v99 v100 v101 v102 v103 v104 v105 v106 v107 v108 v109 v110 v111 v112 v113 v114 v115 v116 v117 v118 v119 v120 v121 v122 v123 v124 v125 v126 v127 v128 v129 v130 v131 v132 v133 v134 v135 v136 v137 v138 v139 v140 v141 v142 v143 v144 v145 v146 v147 v148 v149 v150 v151 v152 v153 v154 v155 v156 v157 v158 v159 v160 v161 v162 v163 v164 v165 v166 v167 v168 v169 v170 v171 v172 v173 v174 v175 v176 v177 v178 v179 v180 v181 v182 v183 v184 v185 v186 v187 v188 v189 v190 v191 v192 v193 v194 v195 v196 v197 v198 v199 v200 v201 v202 v203 v204 v205 v206 v207 v208 v209 v210 v211 v212 v213 v214 v215 v216 v217 v218 v219 v220 v221 v222 v223 v224 v225 v226 v227 v228 v229 v230 v231 v232 v233 v234 v235 v236 v237 v238 v239 v240 v241 v242 v243 v244 v245 v246 v247 v248 v249 v250 v251 v252 v253 wz HBZ
      go_wp2_with fail
      go_ret
      exact ⟨rfl, HB8.out.trans (HBZ.out.mono HB8.out.size)⟩
theorem back_try (ia : Option Addr) (n ic : Nat) (ids : List (List UInt8)) (sz : Int) (tv : Value) (l : List EntN) (pa : Option Addr) (pn pc : Nat) (x : ComN) (w : World)
    (h1 : IDsC (fun k => k < w.heap.size) w (.slice ia n ic) ids) (h2 : ids.length = n) (h3 : n ≤ 1048576) (h4 : -9223372036854775808 ≤ sz) (h5 : sz ≤ 9223372036854775807)
    (h6 : EntsC (fun k => k < w.heap.size) w tv l) (h7 : l.length ≤ 1048576) (h8 : ∀ e ∈ l, e.name.length ≤ 1048576 ∧ e.id.length = 32 ∧ e.stamp < 18446744073709551616)
    (h9 : IDsC (fun k => k < w.heap.size) w (.slice pa pn pc) x.parents) (h10 : x.parents.length = pn) (h11 : pn ≤ 1048576) (h12 : x.tree.length = 32) (h13 : x.stamp < 18446744073709551616) (h14 : x.author.length ≤ 1048576) (h15 : x.note.length ≤ 1048576) :
    Calls Try.prog 5 #[.agg #[.slice ia n ic, .int .i64 sz], tv, .agg (rowL n36 (comF x.tree pa pn pc x.stamp x.author x.note)).toArray] w fun e w' => e = .returned (.bool true) ∧ Below w.heap.size w w' := by
  obtain ⟨ta, tc, rfl⟩ := RowsC.shape h6
  refine back_law (fun k => k < w.heap.size) ia n ic ids sz ta l.length tc l pa pn pc x w _ rfl ⟨fun _ h => h, h1, h2, h3, h4, h5, h6, h7, h8, h9, h10, h11, h12, h13, h14, h15, ?_, ?_, ?_, by simp⟩ rfl
  · exact ((Below.refl _ w).alloc (Nat.le_refl _) _).alloc (by simp) _
  · rw [Below.heap_alloc _ _ _ (by simp)]; exact new_five w _ _
  · have := RF.new (w.alloc (.cells #[.slice ia n ic, .int .i64 sz] 24)) 30 n36 (comF x.tree pa pn pc x.stamp x.author x.note)
    rw [World.size_alloc] at this
    exact this
end Go.Proofs.Ytdolonkeanlaoaa
