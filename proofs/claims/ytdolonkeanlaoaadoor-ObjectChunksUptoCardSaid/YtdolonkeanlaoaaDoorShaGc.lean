/- One round of the first words of a block in the reference's Sum, apart. -/
import Derived.Test.YtdolonkeanlaoaaDoorShaGb
namespace Go.Proofs.YtdolonkeanlaoaaDoor
open Go.RowKit
attribute [local simp high] id_size id_zero

set_option maxRecDepth 1000000 in
set_option maxHeartbeats 20000000 in
theorem sched0 (w : World) (T : Nat → Prop) (kb hb wb : Nat) (ba : Addr) (cq : Nat) (pad : List UInt8) (hv : List Nat) (o k : Nat) (wr : World) (Q : Exit → Act → World → Prop) (c0 c1 c2 c3 c5 c6 c7 c8 c13 c14 c15 c16 c17 c18 c19 c20 c21 c22 c23 c24 c25 c26 c27 c28 c29 c30 c31 c32 c33 c34 c35 c36 c37 c38 c39 c40 c41 c42 c43 c44 c45 c46 c47 c48 c49 c50 c51 c52 c53 c54 c55 c56 c57 c58 c59 c60 c61 c62 c63 c64 c65 c66 c67 c68 c69 c70 c71 c72 c73 c74 c75 c76 c77 c78 c79 c80 c81 c82 c83 c84 c85 c86 c87 c88 c89 c90 c91 c92 c93 c94 c95 c96 c97 c98 c99 c100 c101 c102 c103 c104 c105 c106 c107 c108 c109 c110 c111 c112 c113 c114 c115 c116 c117 c118 c119 c120 c121 c122 c123 c124 c125 c126 c127 c128 c129 c130 c131 c132 c133 c134 c135 c136 c137 c138 c139 c140 c141 c142 c143 c144 c145 c146 c147 c148 c149 c150 c151 c152 c153 c154 c155 c156 c157 c158 c159 c160 c161 c162 c163 c164 c165 c166 c167 c168 c169 c170 c171 c172 c173 c174 c175 c176 c177 c178 c179 c180 c181 c182 c183 c184 c185 c186 c187 c188 c189 c190 c191 c192 c193 c194 c195 c196 c197 c198 c199 c200 c201 c202 c203 c204 c205 c206 c207 c208 c209 c210 c211 c212 c213 c214 c215 c216 c217 c218 c219 c220 c221 c222 c223 c224 c225 c226 c227 c228 c229 c230 c231 c232 c233 c234 c235 c236 c237 c238 c239 c240 c241 c242 c243 c244 c245 c246 c247 c248 c249 c250 c251 c252 c253 c254 c255 c256 c257 c258 c259 c260 c261 c262 c263 c264 c265 c266 c267 c268 c269 c270 c271 c272 c273 c274 c275 c276 c277 c278 c279 c280 c281 c282 c283 c284 c285 c286 c287 c288 c289 c290 c291 c292 c293 c294 c295 c296 c297 c298 : Value)
    (hk64 : k < 64) (h16 : k < 16) (hlt2 : o + 64 ≤ pad.length) (hpl3 : pad.length ≤ 1000100) (W2 : Hid (WordsAt wr wb (schedAt pad o k 0))) (A2 : Hid (Amb w T kb hb (.slice (some ba) pad.length cq) pad hv wb wr)) (hz2 : Hid (wb < wr.heap.size))
    (hQ : ∀ (w' : World) (v13 v14 v15 v63 v64 v65 v66 v67 v68 v69 v70 v71 v72 v73 v74 v75 v76 v77 v78 v79 v80 v81 v82 v83 v84 v85 v86 v87 v88 v89 v90 v91 v92 v93 v94 v95 v96 v97 v98 v99 v100 v101 v102 v103 v104 v105 v106 v107 v108 v109 v110 v111 v112 v113 v114 v115 v116 v117 v118 v119 v120 v121 v122 v123 v124 v125 v126 v127 v128 v129 v130 v131 v132 v133 v134 v135 : Value), WordsAt w' wb (schedAt pad o (k + 1) 0) → Amb w T kb hb (.slice (some ba) pad.length cq) pad hv wb w' → wb < w'.heap.size → Q .normal ⟨List.toArray (c0 :: c1 :: c2 :: c3 :: .slice (some ba) pad.length cq :: c5 :: c6 :: c7 :: c8 :: .int .u64 4294967296 :: .int .i64 (o : Int) :: .slice (some ⟨wb, 0, none⟩) 64 64 :: .int .i64 ((k : Int) + 1) :: v13 :: v14 :: v15 :: c16 :: c17 :: c18 :: c19 :: c20 :: c21 :: c22 :: c23 :: c24 :: c25 :: c26 :: c27 :: c28 :: c29 :: c30 :: c31 :: c32 :: c33 :: c34 :: c35 :: c36 :: c37 :: c38 :: c39 :: c40 :: c41 :: c42 :: c43 :: c44 :: c45 :: c46 :: c47 :: c48 :: c49 :: c50 :: c51 :: c52 :: c53 :: c54 :: c55 :: c56 :: c57 :: c58 :: c59 :: c60 :: c61 :: c62 :: v63 :: v64 :: v65 :: v66 :: v67 :: v68 :: v69 :: v70 :: v71 :: v72 :: v73 :: v74 :: v75 :: v76 :: v77 :: v78 :: v79 :: v80 :: v81 :: v82 :: v83 :: v84 :: v85 :: v86 :: v87 :: v88 :: v89 :: v90 :: v91 :: v92 :: v93 :: v94 :: v95 :: v96 :: v97 :: v98 :: v99 :: v100 :: v101 :: v102 :: v103 :: v104 :: v105 :: v106 :: v107 :: v108 :: v109 :: v110 :: v111 :: v112 :: v113 :: v114 :: v115 :: v116 :: v117 :: v118 :: v119 :: v120 :: v121 :: v122 :: v123 :: v124 :: v125 :: v126 :: v127 :: v128 :: v129 :: v130 :: v131 :: v132 :: v133 :: v134 :: v135 :: c136 :: c137 :: c138 :: c139 :: c140 :: c141 :: c142 :: c143 :: c144 :: c145 :: c146 :: c147 :: c148 :: c149 :: c150 :: c151 :: c152 :: c153 :: c154 :: c155 :: c156 :: c157 :: c158 :: c159 :: c160 :: c161 :: c162 :: c163 :: c164 :: c165 :: c166 :: c167 :: c168 :: c169 :: c170 :: c171 :: c172 :: c173 :: c174 :: c175 :: c176 :: c177 :: c178 :: c179 :: c180 :: c181 :: c182 :: c183 :: c184 :: c185 :: c186 :: c187 :: c188 :: c189 :: c190 :: c191 :: c192 :: c193 :: c194 :: c195 :: c196 :: c197 :: c198 :: c199 :: c200 :: c201 :: c202 :: c203 :: c204 :: c205 :: c206 :: c207 :: c208 :: c209 :: c210 :: c211 :: c212 :: c213 :: c214 :: c215 :: c216 :: c217 :: c218 :: c219 :: c220 :: c221 :: c222 :: c223 :: c224 :: c225 :: c226 :: c227 :: c228 :: c229 :: c230 :: c231 :: c232 :: c233 :: c234 :: c235 :: c236 :: c237 :: c238 :: c239 :: c240 :: c241 :: c242 :: c243 :: c244 :: c245 :: c246 :: c247 :: c248 :: c249 :: c250 :: c251 :: c252 :: c253 :: c254 :: c255 :: c256 :: c257 :: c258 :: c259 :: c260 :: c261 :: c262 :: c263 :: c264 :: c265 :: c266 :: c267 :: c268 :: c269 :: c270 :: c271 :: c272 :: c273 :: c274 :: c275 :: c276 :: c277 :: c278 :: c279 :: c280 :: c281 :: c282 :: c283 :: c284 :: c285 :: c286 :: c287 :: c288 :: c289 :: c290 :: c291 :: c292 :: c293 :: c294 :: c295 :: c296 :: c297 :: c298 :: []), []⟩ w') :
    Code.wp Tryd.prog bodyS Q ⟨List.toArray (c0 :: c1 :: c2 :: c3 :: .slice (some ba) pad.length cq :: c5 :: c6 :: c7 :: c8 :: .int .u64 4294967296 :: .int .i64 (o : Int) :: .slice (some ⟨wb, 0, none⟩) 64 64 :: .int .i64 (k : Int) :: c13 :: c14 :: c15 :: c16 :: c17 :: c18 :: c19 :: c20 :: c21 :: c22 :: c23 :: c24 :: c25 :: c26 :: c27 :: c28 :: c29 :: c30 :: c31 :: c32 :: c33 :: c34 :: c35 :: c36 :: c37 :: c38 :: c39 :: c40 :: c41 :: c42 :: c43 :: c44 :: c45 :: c46 :: c47 :: c48 :: c49 :: c50 :: c51 :: c52 :: c53 :: c54 :: c55 :: c56 :: c57 :: c58 :: c59 :: c60 :: c61 :: c62 :: c63 :: c64 :: c65 :: c66 :: c67 :: c68 :: c69 :: c70 :: c71 :: c72 :: c73 :: c74 :: c75 :: c76 :: c77 :: c78 :: c79 :: c80 :: c81 :: c82 :: c83 :: c84 :: c85 :: c86 :: c87 :: c88 :: c89 :: c90 :: c91 :: c92 :: c93 :: c94 :: c95 :: c96 :: c97 :: c98 :: c99 :: c100 :: c101 :: c102 :: c103 :: c104 :: c105 :: c106 :: c107 :: c108 :: c109 :: c110 :: c111 :: c112 :: c113 :: c114 :: c115 :: c116 :: c117 :: c118 :: c119 :: c120 :: c121 :: c122 :: c123 :: c124 :: c125 :: c126 :: c127 :: c128 :: c129 :: c130 :: c131 :: c132 :: c133 :: c134 :: c135 :: c136 :: c137 :: c138 :: c139 :: c140 :: c141 :: c142 :: c143 :: c144 :: c145 :: c146 :: c147 :: c148 :: c149 :: c150 :: c151 :: c152 :: c153 :: c154 :: c155 :: c156 :: c157 :: c158 :: c159 :: c160 :: c161 :: c162 :: c163 :: c164 :: c165 :: c166 :: c167 :: c168 :: c169 :: c170 :: c171 :: c172 :: c173 :: c174 :: c175 :: c176 :: c177 :: c178 :: c179 :: c180 :: c181 :: c182 :: c183 :: c184 :: c185 :: c186 :: c187 :: c188 :: c189 :: c190 :: c191 :: c192 :: c193 :: c194 :: c195 :: c196 :: c197 :: c198 :: c199 :: c200 :: c201 :: c202 :: c203 :: c204 :: c205 :: c206 :: c207 :: c208 :: c209 :: c210 :: c211 :: c212 :: c213 :: c214 :: c215 :: c216 :: c217 :: c218 :: c219 :: c220 :: c221 :: c222 :: c223 :: c224 :: c225 :: c226 :: c227 :: c228 :: c229 :: c230 :: c231 :: c232 :: c233 :: c234 :: c235 :: c236 :: c237 :: c238 :: c239 :: c240 :: c241 :: c242 :: c243 :: c244 :: c245 :: c246 :: c247 :: c248 :: c249 :: c250 :: c251 :: c252 :: c253 :: c254 :: c255 :: c256 :: c257 :: c258 :: c259 :: c260 :: c261 :: c262 :: c263 :: c264 :: c265 :: c266 :: c267 :: c268 :: c269 :: c270 :: c271 :: c272 :: c273 :: c274 :: c275 :: c276 :: c277 :: c278 :: c279 :: c280 :: c281 :: c282 :: c283 :: c284 :: c285 :: c286 :: c287 :: c288 :: c289 :: c290 :: c291 :: c292 :: c293 :: c294 :: c295 :: c296 :: c297 :: c298 :: []), []⟩ wr := by
  conv => arg 2; whnf
  have hd1 : decide ((k : Int) < 64) = true := decide_eq_true (by omega)
  have hd2 : decide ((k : Int) < 16) = true := decide_eq_true (by omega)
  go_wp2_with fail
  clear hd1 hd2
  go_loopw [13] (fun i wq => ∃ c : Nat, c ≤ 4 ∧ i = .int .i64 c ∧ Hid (WordsAt wq wb (schedAt pad o k c)) ∧ Hid (Amb w T kb hb (.slice (some ba) pad.length cq) pad hv wb wq) ∧ Hid (wb < wq.heap.size)) (fun i _ => 4 - (intOf i).toNat)
  case atStart => exact ⟨0, by omega, rfl, W2, A2, hz2⟩
  case round =>
    obtain ⟨c, hc, rfl, W3, A3, hz3⟩ := hrel
    by_cases hc4 : c < 4
    · have hql : o + 4 * k + c < pad.length := by omega
      have hxl := partW_lt pad (o + 4 * k) c (by omega)
      have h256 : (256 : Nat) ^ c ≤ 256 ^ 3 := Nat.pow_le_pow_right (by omega) (by omega)
      have hx3 : partW pad (o + 4 * k) c < 16777216 := Nat.lt_of_lt_of_le hxl h256
      have hps : partW pad (o + 4 * k) (c + 1) = partW pad (o + 4 * k) c * 256 + (pad.getD (o + 4 * k + c) 0).toNat := rfl
      have hlen := schedAt_len pad o k c (by omega)
      have c1 := W3.out.cell k (by rw [hlen]; exact hk64)
      rw [show (schedAt pad o k c)[k]'(by rw [hlen]; exact hk64) = partW pad (o + 4 * k) c by rw [← schedAt_at pad o k c hk64, List.getD_eq_getElem?_getD, List.getElem?_eq_getElem (by rw [hlen]; exact hk64)]; rfl] at c1
      obtain ⟨c3⟩ : Nonempty (wr.cell? (ba.add (o + 4 * k + c)) = some (.int .u8 ((pad.getD (o + 4 * k + c) 0).toNat : Nat))) := by
        rcases A3.out.b with ⟨h1, _⟩ | ⟨a', c', h1, _, _, _, h5⟩
        · cases h1
        · injection h1 with h1 _ _
          injection h1 with h1
          subst h1
          exact ⟨h5 _ _ (by unfold bv; simp [List.getElem?_eq_getElem hql, List.getD])⟩
      have hst := ((W3.out.kept (w' := wr.drewN 1) rfl).set k (partW pad (o + 4 * k) (c + 1)))
      rw [schedAt_next, hps] at hst
      have HST := Lib.hid hst
      have hfd := (W3.out.kept (w' := wr.drewN 1) rfl).free k
      have hcd : (wr.drewN 1).cell? ⟨wb, k, none⟩ = some (.int .u64 ((partW pad (o + 4 * k) c : Nat) : Int)) := c1
      have hy := (pad.getD (o + 4 * k + c) 0).toNat_lt
      generalize partW pad (o + 4 * k) c = x at *
      generalize (pad.getD (o + 4 * k + c) 0).toNat = y at *
      obtain ⟨q, hq⟩ : ∃ q, q = o + 4 * k + c := ⟨_, rfl⟩
      rw [← hq] at c3 hql
      have w1 : IntKind.i64.wrap (4 * (k : Int)) = 4 * (k : Int) := IntWalk.i64_in _ (by omega)
      have w2 : IntKind.i64.wrap ((o : Int) + 4 * (k : Int)) = (o : Int) + 4 * (k : Int) := IntWalk.i64_in _ (by omega)
      have w3 : IntKind.i64.wrap ((o : Int) + 4 * (k : Int) + (c : Int)) = (q : Int) := by rw [IntWalk.i64_in _ (by omega)]; omega
      have w4 : IntKind.u64.wrap ((x : Int) * 256) = (x : Int) * 256 := by rw [IntKind.wrap_u64]; omega
      have w5 : IntKind.u64.wrap ((x : Int) * 256 + (y : Int)) = (x : Int) * 256 + (y : Int) := by rw [IntKind.wrap_u64]; omega
      have g7 : (k : Int) < 64 := by omega
      have g8 : (0 : Int) ≤ (k : Int) := by omega
      have g9 : (q : Int) < (pad.length : Int) := by omega
      have g10 : (0 : Int) ≤ (q : Int) := by omega
      have w6' : IntKind.u64.wrap (y : Int) = (y : Int) := by rw [IntKind.wrap_u64]; omega
      have A4 := Lib.hid (A3.out.on (below_draw wb wr 1))
      have hz4 : wb < (wr.drewN 1).heap.size := hz3.out
      have HFD := Lib.hid hfd
      have HCD := Lib.hid hcd
      clear hq hxl h256 hlen hst hfd hcd W3 A3 hps
      go_wp2_with fail
      go_still_tail 19, (by kernel_rfl)
      change wpList _ _ _ _ _ (wr.drewN 1)
      clear c1 c3 w1 w2 w3 w4 w5 w6' hz3
      generalize wr.drewN 1 = wd at *
      have hfd := HFD.out
      have hcd := HCD.out
      go_wp2_with fail
      go_roundw
      case rel => exact ⟨c + 1, by omega, by go_num, Lib.hid (by have h := HST.out; push_cast at h; exact h), Lib.hid (A4.out.on (below_words wd wb k _ (Nat.le_refl _))), Lib.hid (by simp; omega)⟩
      case measure => simp [intOf]; omega
    · have hc4' : c = 4 := by omega
      have HW4 : Hid (WordsAt wr wb (schedAt pad o (k + 1) 0)) := Lib.hid (by rw [← schedAt_word pad o k h16, ← hc4']; exact W3.out)
      clear hc4'
      go_wp2_with fail
      exact hQ _ _ _ _ _ _ _ _ _ _ _ _ _ _ _ _ _ _ _ _ _ _ _ _ _ _ _ _ _ _ _ _ _ _ _ _ _ _ _ _ _ _ _ _ _ _ _ _ _ _ _ _ _ _ _ _ _ _ _ _ _ _ _ _ _ _ _ _ _ _ _ _ _ _ _ _ _ HW4.out A3.out hz3.out
end Go.Proofs.YtdolonkeanlaoaaDoor
