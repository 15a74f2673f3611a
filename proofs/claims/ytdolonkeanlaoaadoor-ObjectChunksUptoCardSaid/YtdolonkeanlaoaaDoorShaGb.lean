/- One round of the later words of a block in the reference's Sum, apart. -/
import Derived.Test.YtdolonkeanlaoaaDoorShaGa
namespace Go.Proofs.YtdolonkeanlaoaaDoor
open Go.RowKit
attribute [local simp high] id_size id_zero

noncomputable def bodyS : Code := ((Tryd.f10.body.map loopsC).getD []).getD 3 .skip
set_option maxRecDepth 1000000 in
set_option maxHeartbeats 20000000 in
theorem sched16 (w : World) (T : Nat → Prop) (kb hb wb : Nat) (va : Value) (pad : List UInt8) (hv : List Nat) (o k : Nat) (wr : World) (Q : Exit → Act → World → Prop) (c0 c1 c2 c3 c4 c5 c6 c7 c8 c10 c13 c14 c15 c16 c17 c18 c19 c20 c21 c22 c23 c24 c25 c26 c27 c28 c29 c30 c31 c32 c33 c34 c35 c36 c37 c38 c39 c40 c41 c42 c43 c44 c45 c46 c47 c48 c49 c50 c51 c52 c53 c54 c55 c56 c57 c58 c59 c60 c61 c62 c63 c64 c65 c66 c67 c68 c69 c70 c71 c72 c73 c74 c75 c76 c77 c78 c79 c80 c81 c82 c83 c84 c85 c86 c87 c88 c89 c90 c91 c92 c93 c94 c95 c96 c97 c98 c99 c100 c101 c102 c103 c104 c105 c106 c107 c108 c109 c110 c111 c112 c113 c114 c115 c116 c117 c118 c119 c120 c121 c122 c123 c124 c125 c126 c127 c128 c129 c130 c131 c132 c133 c134 c135 c136 c137 c138 c139 c140 c141 c142 c143 c144 c145 c146 c147 c148 c149 c150 c151 c152 c153 c154 c155 c156 c157 c158 c159 c160 c161 c162 c163 c164 c165 c166 c167 c168 c169 c170 c171 c172 c173 c174 c175 c176 c177 c178 c179 c180 c181 c182 c183 c184 c185 c186 c187 c188 c189 c190 c191 c192 c193 c194 c195 c196 c197 c198 c199 c200 c201 c202 c203 c204 c205 c206 c207 c208 c209 c210 c211 c212 c213 c214 c215 c216 c217 c218 c219 c220 c221 c222 c223 c224 c225 c226 c227 c228 c229 c230 c231 c232 c233 c234 c235 c236 c237 c238 c239 c240 c241 c242 c243 c244 c245 c246 c247 c248 c249 c250 c251 c252 c253 c254 c255 c256 c257 c258 c259 c260 c261 c262 c263 c264 c265 c266 c267 c268 c269 c270 c271 c272 c273 c274 c275 c276 c277 c278 c279 c280 c281 c282 c283 c284 c285 c286 c287 c288 c289 c290 c291 c292 c293 c294 c295 c296 c297 c298 : Value)
    (hk64 : k < 64) (h16 : ¬ k < 16) (W2 : Hid (WordsAt wr wb (schedAt pad o k 0))) (A2 : Hid (Amb w T kb hb va pad hv wb wr)) (hz2 : Hid (wb < wr.heap.size))
    (hP : ∀ c (a : Act) (d : Option Tmp) (v : Value) (w : World), Q (.panic c) (a.put d v) w → Q (.panic c) a w)
    (hQ : ∀ (w' : World) (v13 v14 v15 v63 v64 v65 v66 v67 v68 v69 v70 v71 v72 v73 v74 v75 v76 v77 v78 v79 v80 v81 v82 v83 v84 v85 v86 v87 v88 v89 v90 v91 v92 v93 v94 v95 v96 v97 v98 v99 v100 v101 v102 v103 v104 v105 v106 v107 v108 v109 v110 v111 v112 v113 v114 v115 v116 v117 v118 v119 v120 v121 v122 v123 v124 v125 v126 v127 v128 v129 v130 v131 v132 v133 v134 v135 : Value), WordsAt w' wb (schedAt pad o (k + 1) 0) → Amb w T kb hb va pad hv wb w' → wb < w'.heap.size → Q .normal ⟨List.toArray (c0 :: c1 :: c2 :: c3 :: c4 :: c5 :: c6 :: c7 :: c8 :: .int .u64 4294967296 :: c10 :: .slice (some ⟨wb, 0, none⟩) 64 64 :: .int .i64 ((k : Int) + 1) :: v13 :: v14 :: v15 :: c16 :: c17 :: c18 :: c19 :: c20 :: c21 :: c22 :: c23 :: c24 :: c25 :: c26 :: c27 :: c28 :: c29 :: c30 :: c31 :: c32 :: c33 :: c34 :: c35 :: c36 :: c37 :: c38 :: c39 :: c40 :: c41 :: c42 :: c43 :: c44 :: c45 :: c46 :: c47 :: c48 :: c49 :: c50 :: c51 :: c52 :: c53 :: c54 :: c55 :: c56 :: c57 :: c58 :: c59 :: c60 :: c61 :: c62 :: v63 :: v64 :: v65 :: v66 :: v67 :: v68 :: v69 :: v70 :: v71 :: v72 :: v73 :: v74 :: v75 :: v76 :: v77 :: v78 :: v79 :: v80 :: v81 :: v82 :: v83 :: v84 :: v85 :: v86 :: v87 :: v88 :: v89 :: v90 :: v91 :: v92 :: v93 :: v94 :: v95 :: v96 :: v97 :: v98 :: v99 :: v100 :: v101 :: v102 :: v103 :: v104 :: v105 :: v106 :: v107 :: v108 :: v109 :: v110 :: v111 :: v112 :: v113 :: v114 :: v115 :: v116 :: v117 :: v118 :: v119 :: v120 :: v121 :: v122 :: v123 :: v124 :: v125 :: v126 :: v127 :: v128 :: v129 :: v130 :: v131 :: v132 :: v133 :: v134 :: v135 :: c136 :: c137 :: c138 :: c139 :: c140 :: c141 :: c142 :: c143 :: c144 :: c145 :: c146 :: c147 :: c148 :: c149 :: c150 :: c151 :: c152 :: c153 :: c154 :: c155 :: c156 :: c157 :: c158 :: c159 :: c160 :: c161 :: c162 :: c163 :: c164 :: c165 :: c166 :: c167 :: c168 :: c169 :: c170 :: c171 :: c172 :: c173 :: c174 :: c175 :: c176 :: c177 :: c178 :: c179 :: c180 :: c181 :: c182 :: c183 :: c184 :: c185 :: c186 :: c187 :: c188 :: c189 :: c190 :: c191 :: c192 :: c193 :: c194 :: c195 :: c196 :: c197 :: c198 :: c199 :: c200 :: c201 :: c202 :: c203 :: c204 :: c205 :: c206 :: c207 :: c208 :: c209 :: c210 :: c211 :: c212 :: c213 :: c214 :: c215 :: c216 :: c217 :: c218 :: c219 :: c220 :: c221 :: c222 :: c223 :: c224 :: c225 :: c226 :: c227 :: c228 :: c229 :: c230 :: c231 :: c232 :: c233 :: c234 :: c235 :: c236 :: c237 :: c238 :: c239 :: c240 :: c241 :: c242 :: c243 :: c244 :: c245 :: c246 :: c247 :: c248 :: c249 :: c250 :: c251 :: c252 :: c253 :: c254 :: c255 :: c256 :: c257 :: c258 :: c259 :: c260 :: c261 :: c262 :: c263 :: c264 :: c265 :: c266 :: c267 :: c268 :: c269 :: c270 :: c271 :: c272 :: c273 :: c274 :: c275 :: c276 :: c277 :: c278 :: c279 :: c280 :: c281 :: c282 :: c283 :: c284 :: c285 :: c286 :: c287 :: c288 :: c289 :: c290 :: c291 :: c292 :: c293 :: c294 :: c295 :: c296 :: c297 :: c298 :: []), []⟩ w') :
    Code.wp Tryd.prog bodyS Q ⟨List.toArray (c0 :: c1 :: c2 :: c3 :: c4 :: c5 :: c6 :: c7 :: c8 :: .int .u64 4294967296 :: c10 :: .slice (some ⟨wb, 0, none⟩) 64 64 :: .int .i64 (k : Int) :: c13 :: c14 :: c15 :: c16 :: c17 :: c18 :: c19 :: c20 :: c21 :: c22 :: c23 :: c24 :: c25 :: c26 :: c27 :: c28 :: c29 :: c30 :: c31 :: c32 :: c33 :: c34 :: c35 :: c36 :: c37 :: c38 :: c39 :: c40 :: c41 :: c42 :: c43 :: c44 :: c45 :: c46 :: c47 :: c48 :: c49 :: c50 :: c51 :: c52 :: c53 :: c54 :: c55 :: c56 :: c57 :: c58 :: c59 :: c60 :: c61 :: c62 :: c63 :: c64 :: c65 :: c66 :: c67 :: c68 :: c69 :: c70 :: c71 :: c72 :: c73 :: c74 :: c75 :: c76 :: c77 :: c78 :: c79 :: c80 :: c81 :: c82 :: c83 :: c84 :: c85 :: c86 :: c87 :: c88 :: c89 :: c90 :: c91 :: c92 :: c93 :: c94 :: c95 :: c96 :: c97 :: c98 :: c99 :: c100 :: c101 :: c102 :: c103 :: c104 :: c105 :: c106 :: c107 :: c108 :: c109 :: c110 :: c111 :: c112 :: c113 :: c114 :: c115 :: c116 :: c117 :: c118 :: c119 :: c120 :: c121 :: c122 :: c123 :: c124 :: c125 :: c126 :: c127 :: c128 :: c129 :: c130 :: c131 :: c132 :: c133 :: c134 :: c135 :: c136 :: c137 :: c138 :: c139 :: c140 :: c141 :: c142 :: c143 :: c144 :: c145 :: c146 :: c147 :: c148 :: c149 :: c150 :: c151 :: c152 :: c153 :: c154 :: c155 :: c156 :: c157 :: c158 :: c159 :: c160 :: c161 :: c162 :: c163 :: c164 :: c165 :: c166 :: c167 :: c168 :: c169 :: c170 :: c171 :: c172 :: c173 :: c174 :: c175 :: c176 :: c177 :: c178 :: c179 :: c180 :: c181 :: c182 :: c183 :: c184 :: c185 :: c186 :: c187 :: c188 :: c189 :: c190 :: c191 :: c192 :: c193 :: c194 :: c195 :: c196 :: c197 :: c198 :: c199 :: c200 :: c201 :: c202 :: c203 :: c204 :: c205 :: c206 :: c207 :: c208 :: c209 :: c210 :: c211 :: c212 :: c213 :: c214 :: c215 :: c216 :: c217 :: c218 :: c219 :: c220 :: c221 :: c222 :: c223 :: c224 :: c225 :: c226 :: c227 :: c228 :: c229 :: c230 :: c231 :: c232 :: c233 :: c234 :: c235 :: c236 :: c237 :: c238 :: c239 :: c240 :: c241 :: c242 :: c243 :: c244 :: c245 :: c246 :: c247 :: c248 :: c249 :: c250 :: c251 :: c252 :: c253 :: c254 :: c255 :: c256 :: c257 :: c258 :: c259 :: c260 :: c261 :: c262 :: c263 :: c264 :: c265 :: c266 :: c267 :: c268 :: c269 :: c270 :: c271 :: c272 :: c273 :: c274 :: c275 :: c276 :: c277 :: c278 :: c279 :: c280 :: c281 :: c282 :: c283 :: c284 :: c285 :: c286 :: c287 :: c288 :: c289 :: c290 :: c291 :: c292 :: c293 :: c294 :: c295 :: c296 :: c297 :: c298 :: []), []⟩ wr := by
  conv => arg 2; whnf
  obtain ⟨k16, hk16⟩ : ∃ j, k = j + 16 := ⟨k - 16, by omega⟩
  obtain ⟨k15, hk15⟩ : ∃ j, k = j + 15 := ⟨k - 15, by omega⟩
  obtain ⟨k7, hk7⟩ : ∃ j, k = j + 7 := ⟨k - 7, by omega⟩
  obtain ⟨k2, hk2⟩ : ∃ j, k = j + 2 := ⟨k - 2, by omega⟩
  have hlen := schedAt_len pad o k 0 (by omega)
  have HX : ∀ j, j < k → wr.cell? ⟨wb, j, none⟩ = some (.int .u64 (((schedAt pad o k 0).getD j 0 : Nat) : Int)) := fun j hj => by
    rw [W2.out.cell j (by rw [hlen]; omega)]
    simp [List.getD, List.getElem?_eq_getElem (show j < (schedAt pad o k 0).length by rw [hlen]; omega)]
  have c16 := HX k16 (by omega)
  have c15 := HX k15 (by omega)
  have c7 := HX k7 (by omega)
  have c2 := HX k2 (by omega)
  have la := schedAt_lt pad o k k16 (by omega)
  have lx := schedAt_lt pad o k k15 (by omega)
  have lb := schedAt_lt pad o k k7 (by omega)
  have ly := schedAt_lt pad o k k2 (by omega)
  have hls := sched_late pad o k (by omega)
  obtain ⟨uk, huk⟩ : ∃ uk, wr.cell? ⟨wb, k, none⟩ = some uk := ⟨_, W2.out.cell k (by rw [hlen]; exact hk64)⟩
  have CK := Lib.hid huk
  have FK := Lib.hid (W2.out.free k)
  clear huk
  rw [show k - 16 = k16 by omega, show k - 7 = k7 by omega, show k - 15 = k15 by omega, show k - 2 = k2 by omega] at hls
  have hst := fun (W : World) (h : W.heap[wb]? = wr.heap[wb]?) (z : Nat) => (W2.out.kept h).set k z
  have HSS := Lib.hid (fun z (h : schedL pad o (k + 1) = schedL pad o k ++ [z]) => sched_set pad o k z hk64 h)
  generalize (schedAt pad o k 0).getD k16 0 = a at *
  generalize (schedAt pad o k 0).getD k15 0 = x at *
  generalize (schedAt pad o k 0).getD k7 0 = b at *
  generalize (schedAt pad o k 0).getD k2 0 = y at *
  have hdk1 : decide ((k : Int) < 64) = true := decide_eq_true (by omega)
  have hdk2 : decide ((k : Int) < 16) = false := decide_eq_false (by omega)
  have Hx := Lib.hid lx
  have Hy := Lib.hid ly
  have r1 := rotN_lt lx (n := 7) (by omega)
  have r2 := rotN_lt lx (n := 18) (by omega)
  have r3 := rotN_lt ly (n := 17) (by omega)
  have r4 := rotN_lt ly (n := 19) (by omega)
  have d1 : x / 2 ^ 3 < two32 := Nat.lt_of_le_of_lt (Nat.div_le_self _ _) lx
  have d2 : y / 2 ^ 10 < two32 := Nat.lt_of_le_of_lt (Nat.div_le_self _ _) ly
  have s0 := sml0_lt lx
  have s1 := sml1_lt ly
  have HSM0 : Hid ((rotN x 7 ^^^ rotN x 18) ^^^ x / 2 ^ 3 = sml0 x) := Lib.hid rfl
  have HSM1 : Hid ((rotN y 17 ^^^ rotN y 19) ^^^ y / 2 ^ 10 = sml1 y) := Lib.hid rfl
  have HE : Hid (two32 = 4294967296) := Lib.hid rfl
  have x1 : bits .xor .u64 ((rotN x 7 : Nat) : Int) ((rotN x 18 : Nat) : Int) = ((rotN x 7 ^^^ rotN x 18 : Nat) : Int) := bits_xor_u64_nat _ _ (by rw [HE.out] at r1; omega) (by rw [HE.out] at r2; omega)
  have l1 : rotN x 7 ^^^ rotN x 18 < 2 ^ 32 := Nat.xor_lt_two_pow (by rw [HE.out] at r1; exact r1) (by rw [HE.out] at r2; exact r2)
  have x2 : bits .xor .u64 ((rotN x 7 ^^^ rotN x 18 : Nat) : Int) ((x : Int) / 8) = ((sml0 x : Nat) : Int) := by rw [← HSM0.out, show ((x : Int) / 8) = ((x / 2 ^ 3 : Nat) : Int) by omega]; exact bits_xor_u64_nat _ _ (by omega) (by rw [HE.out] at d1; omega)
  have x3 : bits .xor .u64 ((rotN y 17 : Nat) : Int) ((rotN y 19 : Nat) : Int) = ((rotN y 17 ^^^ rotN y 19 : Nat) : Int) := bits_xor_u64_nat _ _ (by rw [HE.out] at r3; omega) (by rw [HE.out] at r4; omega)
  have l2 : rotN y 17 ^^^ rotN y 19 < 2 ^ 32 := Nat.xor_lt_two_pow (by rw [HE.out] at r3; exact r3) (by rw [HE.out] at r4; exact r4)
  have x4 : bits .xor .u64 ((rotN y 17 ^^^ rotN y 19 : Nat) : Int) ((y : Int) / 1024) = ((sml1 y : Nat) : Int) := by rw [← HSM1.out, show ((y : Int) / 1024) = ((y / 2 ^ 10 : Nat) : Int) by omega]; exact bits_xor_u64_nat _ _ (by omega) (by rw [HE.out] at d2; omega)
  rw [HE.out] at la lb s0 s1
  have HSN : Hid (∀ z, z = (a + b + sml0 x + sml1 y) % two32 → schedL pad o (k + 1) = schedL pad o k ++ [z]) := Lib.hid (fun z hz => by rw [hls, hz])
  have HST := Lib.hid hst
  have j1 : (k : Int) - 16 = (k16 : Int) := by omega
  have j2 : (k : Int) - 15 = (k15 : Int) := by omega
  have j3 : (k : Int) - 7 = (k7 : Int) := by omega
  have j4 : (k : Int) - 2 = (k2 : Int) := by omega
  have v1 : IntKind.i64.wrap ((k : Int) - 16) = (k16 : Int) := by rw [IntWalk.i64_in _ (by omega)]; omega
  have v3 : IntKind.i64.wrap ((k : Int) - 7) = (k7 : Int) := by rw [IntWalk.i64_in _ (by omega)]; omega
  have v5 : IntKind.i64.wrap (k16 : Int) = (k16 : Int) := IntWalk.i64_in _ (by omega)
  have v6 : IntKind.i64.wrap (k7 : Int) = (k7 : Int) := IntWalk.i64_in _ (by omega)
  have i1 : k16 < 64 := by omega
  have i2 : k15 < 64 := by omega
  have i3 : k7 < 64 := by omega
  have i4 : k2 < 64 := by omega
  have i5 : (k16 : Int) < 64 := by omega
  have i6 : (k7 : Int) < 64 := by omega
  have i7 : (0 : Int) ≤ (k16 : Int) := by omega
  have i8 : (0 : Int) ≤ (k7 : Int) := by omega
  have i9 : (k : Int) < 64 := by omega
  have i10 : (0 : Int) ≤ (k : Int) := by omega
  have u1 : IntKind.u64.wrap ((a : Int) + (b : Int)) = (a : Int) + (b : Int) := by rw [IntKind.wrap_u64]; omega
  generalize sml0 x = z0 at *
  generalize sml1 y = z1 at *
  have u2 : IntKind.u64.wrap ((a : Int) + (b : Int) + (z0 : Int)) = (a : Int) + (b : Int) + (z0 : Int) := by rw [IntKind.wrap_u64]; omega
  have u3 : IntKind.u64.wrap ((a : Int) + (b : Int) + (z0 : Int) + (z1 : Int)) = (a : Int) + (b : Int) + (z0 : Int) + (z1 : Int) := by rw [IntKind.wrap_u64]; omega
  obtain ⟨z, hz⟩ : ∃ z, z = (a + b + z0 + z1) % two32 := ⟨_, rfl⟩
  have HZ := Lib.hid hz
  have u4 : ((a : Int) + (b : Int) + (z0 : Int) + (z1 : Int)).tmod 4294967296 = (z : Int) := by rw [Int.tmod_eq_emod_of_nonneg (by omega), hz, HE.out]; omega
  clear hz
  clear HX hls hk16 hk15 hk7 hk2 hlen hst W2 r1 r2 r3 r4 d1 d2 lx ly l1 l2 HSM0 HSM1
  go_wp2_with fail
  refine wp_region_D 34 (fun W => W.cell? ⟨wb, k16, none⟩ = some (.int .u64 (a : Nat)) ∧ W.cell? ⟨wb, k7, none⟩ = some (.int .u64 (b : Nat))) (by kernel_rfl) (by kernel_rfl) (by kernel_rfl) ?_
  have hSd := (show wr.drew.cell? ⟨wb, k16, none⟩ = some (.int .u64 (a : Nat)) ∧ wr.drew.cell? ⟨wb, k7, none⟩ = some (.int .u64 (b : Nat)) from ⟨c16, c7⟩)
  refine wpAnyD_take (i := 0) (oi := ⟨_, _, _, _, _, _⟩) (v := ?_) rfl (by kernel_rfl) (by kernel_rfl) (by kernel_rfl) (by kernel_rfl) (fun _ _ _ h => hP _ _ _ _ _ h) (fun _ _ h => h) (Or.inl (Or.inl ⟨by rfl, ?_⟩)) hSd ?_
  rotate_left
  · intro W hSw; (try dsimp only at hSw); first | (go_simp; done) | (go_simp; with_reducible rfl)
  try simp only [Act.put, List.setIfInBounds_toArray, List.set_cons_zero, List.set_cons_succ]
  refine wpAnyD_take (i := 1) (oi := ⟨_, _, _, _, _, _⟩) (v := ?_) rfl (by kernel_rfl) (by kernel_rfl) (by kernel_rfl) (by kernel_rfl) (fun _ _ _ h => hP _ _ _ _ _ h) (fun _ _ h => h) (Or.inl (Or.inl ⟨by rfl, ?_⟩)) hSd ?_
  rotate_left
  · intro W hSw; (try dsimp only at hSw); first | (go_simp; done) | (go_simp; with_reducible rfl)
  try simp only [Act.put, List.setIfInBounds_toArray, List.set_cons_zero, List.set_cons_succ]
  refine wpAnyD_take (i := 2) (oi := ⟨_, _, _, _, _, _⟩) (v := ?_) rfl (by kernel_rfl) (by kernel_rfl) (by kernel_rfl) (by kernel_rfl) (fun _ _ _ h => hP _ _ _ _ _ h) (fun _ _ h => h) (Or.inl (Or.inl ⟨by rfl, ?_⟩)) hSd ?_
  rotate_left
  · intro W hSw; (try dsimp only at hSw); first | (go_simp; done) | (go_simp; with_reducible rfl)
  try simp only [Act.put, List.setIfInBounds_toArray, List.set_cons_zero, List.set_cons_succ]
  refine wpAnyD_take (i := 3) (oi := ⟨_, _, _, _, _, _⟩) (v := ?_) rfl (by kernel_rfl) (by kernel_rfl) (by kernel_rfl) (by kernel_rfl) (fun _ _ _ h => hP _ _ _ _ _ h) (fun _ _ h => h) (Or.inl (Or.inl ⟨by rfl, ?_⟩)) hSd ?_
  rotate_left
  · intro W hSw; (try dsimp only at hSw); first | (go_simp; done) | (go_simp; with_reducible rfl)
  try simp only [Act.put, List.setIfInBounds_toArray, List.set_cons_zero, List.set_cons_succ]
  refine wpAnyD_take (i := 4) (oi := ⟨_, _, _, _, _, _⟩) (v := ?_) rfl (by kernel_rfl) (by kernel_rfl) (by kernel_rfl) (by kernel_rfl) (fun _ _ _ h => hP _ _ _ _ _ h) (fun _ _ h => h) (Or.inl (Or.inl ⟨by rfl, ?_⟩)) hSd ?_
  rotate_left
  · intro W hSw; (try dsimp only at hSw); first | (go_simp; done) | (go_simp; with_reducible rfl)
  try simp only [Act.put, List.setIfInBounds_toArray, List.set_cons_zero, List.set_cons_succ]
  refine wpAnyD_take (i := 5) (oi := ⟨_, _, _, _, _, _⟩) (v := ?_) rfl (by kernel_rfl) (by kernel_rfl) (by kernel_rfl) (by kernel_rfl) (fun _ _ _ h => hP _ _ _ _ _ h) (fun _ _ h => h) (Or.inl (Or.inl ⟨by rfl, ?_⟩)) hSd ?_
  rotate_left
  · intro W hSw; (try dsimp only at hSw); first | (go_simp; done) | (go_simp; with_reducible rfl)
  try simp only [Act.put, List.setIfInBounds_toArray, List.set_cons_zero, List.set_cons_succ]
  refine wpAnyD_take (i := 6) (oi := ⟨_, _, _, _, _, _⟩) (v := ?_) rfl (by kernel_rfl) (by kernel_rfl) (by kernel_rfl) (by kernel_rfl) (fun _ _ _ h => hP _ _ _ _ _ h) (fun _ _ h => h) (Or.inl (Or.inl ⟨by rfl, ?_⟩)) hSd ?_
  rotate_left
  · intro W hSw; (try dsimp only at hSw); first | (go_simp; done) | (go_simp; with_reducible rfl)
  try simp only [Act.put, List.setIfInBounds_toArray, List.set_cons_zero, List.set_cons_succ]
  refine wpAnyD_take (i := 7) (oi := ⟨_, _, _, _, _, _⟩) (v := ?_) rfl (by kernel_rfl) (by kernel_rfl) (by kernel_rfl) (by kernel_rfl) (fun _ _ _ h => hP _ _ _ _ _ h) (fun _ _ h => h) (Or.inl (Or.inl ⟨by rfl, ?_⟩)) hSd ?_
  rotate_left
  · intro W hSw; (try dsimp only at hSw); first | (go_simp; done) | (go_simp; with_reducible rfl)
  try simp only [Act.put, List.setIfInBounds_toArray, List.set_cons_zero, List.set_cons_succ]
  refine wpAnyD_take (i := 8) (oi := ⟨_, _, _, _, _, _⟩) (v := ?_) rfl (by kernel_rfl) (by kernel_rfl) (by kernel_rfl) (by kernel_rfl) (fun _ _ _ h => hP _ _ _ _ _ h) (fun _ _ h => h) (Or.inl (Or.inl ⟨by rfl, ?_⟩)) hSd ?_
  rotate_left
  · intro W hSw; (try dsimp only at hSw); first | (go_simp; done) | (go_simp; with_reducible rfl)
  try simp only [Act.put, List.setIfInBounds_toArray, List.set_cons_zero, List.set_cons_succ]
  refine wpAnyD_take (i := 9) (oi := ⟨_, _, _, _, _, _⟩) (v := ?_) rfl (by kernel_rfl) (by kernel_rfl) (by kernel_rfl) (by kernel_rfl) (fun _ _ _ h => hP _ _ _ _ _ h) (fun _ _ h => h) (Or.inl (Or.inl ⟨by rfl, ?_⟩)) hSd ?_
  rotate_left
  · intro W hSw; (try dsimp only at hSw); first | (go_simp; done) | (go_simp; with_reducible rfl)
  try simp only [Act.put, List.setIfInBounds_toArray, List.set_cons_zero, List.set_cons_succ]
  refine wpAnyD_take (i := 10) (oi := ⟨_, _, _, _, _, _⟩) (v := ?_) rfl (by kernel_rfl) (by kernel_rfl) (by kernel_rfl) (by kernel_rfl) (fun _ _ _ h => hP _ _ _ _ _ h) (fun _ _ h => h) (Or.inl (Or.inl ⟨by rfl, ?_⟩)) hSd ?_
  rotate_left
  · intro W hSw; (try dsimp only at hSw); first | (go_simp; done) | (go_simp; with_reducible rfl)
  try simp only [Act.put, List.setIfInBounds_toArray, List.set_cons_zero, List.set_cons_succ]
  refine wpAnyD_take (i := 11) (oi := ⟨_, _, _, _, _, _⟩) (v := ?_) rfl (by kernel_rfl) (by kernel_rfl) (by kernel_rfl) (by kernel_rfl) (fun _ _ _ h => hP _ _ _ _ _ h) (fun _ _ h => h) (Or.inl (Or.inl ⟨by rfl, ?_⟩)) hSd ?_
  rotate_left
  · intro W hSw; (try dsimp only at hSw); first | (go_simp; done) | (go_simp; with_reducible rfl)
  try simp only [Act.put, List.setIfInBounds_toArray, List.set_cons_zero, List.set_cons_succ]
  refine wpAnyD_take (i := 12) (oi := ⟨_, _, _, _, _, _⟩) (v := ?_) rfl (by kernel_rfl) (by kernel_rfl) (by kernel_rfl) (by kernel_rfl) (fun _ _ _ h => hP _ _ _ _ _ h) (fun _ _ h => h) (Or.inl (Or.inl ⟨by rfl, ?_⟩)) hSd ?_
  rotate_left
  · intro W hSw; (try dsimp only at hSw); first | (go_simp; done) | (go_simp; with_reducible rfl)
  try simp only [Act.put, List.setIfInBounds_toArray, List.set_cons_zero, List.set_cons_succ]
  refine wpAnyD_take (i := 13) (oi := ⟨_, _, _, _, _, _⟩) (v := ?_) rfl (by kernel_rfl) (by kernel_rfl) (by kernel_rfl) (by kernel_rfl) (fun _ _ _ h => hP _ _ _ _ _ h) (fun _ _ h => h) (Or.inl (Or.inl ⟨by rfl, ?_⟩)) hSd ?_
  rotate_left
  · intro W hSw; (try dsimp only at hSw); first | (go_simp; done) | (go_simp; with_reducible rfl)
  try simp only [Act.put, List.setIfInBounds_toArray, List.set_cons_zero, List.set_cons_succ]
  refine wpAnyD_take (i := 14) (oi := ⟨_, _, _, _, _, _⟩) (v := .int .u64 ((rotN x 7 : Nat) : Int)) rfl (by kernel_rfl) (by kernel_rfl) (by kernel_rfl) (by kernel_rfl) (fun _ _ _ h => hP _ _ _ _ _ h) (fun _ _ h => h) (Or.inr ⟨by rfl, fun W _ => ⟨28, #[.int .u64 (x : Nat), .int .i64 7], ?_, turn_any x 7 W Hx.out (by omega)⟩⟩) hSd ?_
  · first | (go_simp; done) | (go_simp; with_reducible rfl)
  try simp only [Act.put, List.setIfInBounds_toArray, List.set_cons_zero, List.set_cons_succ]
  refine wpAnyD_take (i := 15) (oi := ⟨_, _, _, _, _, _⟩) (v := ?_) rfl (by kernel_rfl) (by kernel_rfl) (by kernel_rfl) (by kernel_rfl) (fun _ _ _ h => hP _ _ _ _ _ h) (fun _ _ h => h) (Or.inl (Or.inl ⟨by rfl, ?_⟩)) hSd ?_
  rotate_left
  · intro W hSw; (try dsimp only at hSw); first | (go_simp; done) | (go_simp; with_reducible rfl)
  try simp only [Act.put, List.setIfInBounds_toArray, List.set_cons_zero, List.set_cons_succ]
  refine wpAnyD_take (i := 16) (oi := ⟨_, _, _, _, _, _⟩) (v := .int .u64 ((rotN x 18 : Nat) : Int)) rfl (by kernel_rfl) (by kernel_rfl) (by kernel_rfl) (by kernel_rfl) (fun _ _ _ h => hP _ _ _ _ _ h) (fun _ _ h => h) (Or.inr ⟨by rfl, fun W _ => ⟨28, #[.int .u64 (x : Nat), .int .i64 18], ?_, turn_any x 18 W Hx.out (by omega)⟩⟩) hSd ?_
  · first | (go_simp; done) | (go_simp; with_reducible rfl)
  try simp only [Act.put, List.setIfInBounds_toArray, List.set_cons_zero, List.set_cons_succ]
  refine wpAnyD_take (i := 17) (oi := ⟨_, _, _, _, _, _⟩) (v := ?_) rfl (by kernel_rfl) (by kernel_rfl) (by kernel_rfl) (by kernel_rfl) (fun _ _ _ h => hP _ _ _ _ _ h) (fun _ _ h => h) (Or.inl (Or.inl ⟨by rfl, ?_⟩)) hSd ?_
  rotate_left
  · intro W hSw; (try dsimp only at hSw); first | (go_simp; done) | (go_simp; with_reducible rfl)
  try simp only [Act.put, List.setIfInBounds_toArray, List.set_cons_zero, List.set_cons_succ]
  refine wpAnyD_take (i := 18) (oi := ⟨_, _, _, _, _, _⟩) (v := ?_) rfl (by kernel_rfl) (by kernel_rfl) (by kernel_rfl) (by kernel_rfl) (fun _ _ _ h => hP _ _ _ _ _ h) (fun _ _ h => h) (Or.inl (Or.inl ⟨by rfl, ?_⟩)) hSd ?_
  rotate_left
  · intro W hSw; (try dsimp only at hSw); first | (go_simp; done) | (go_simp; with_reducible rfl)
  try simp only [Act.put, List.setIfInBounds_toArray, List.set_cons_zero, List.set_cons_succ]
  refine wpAnyD_take (i := 19) (oi := ⟨_, _, _, _, _, _⟩) (v := .int .u64 ((x / 2 ^ 3 : Nat) : Int)) rfl (by kernel_rfl) (by kernel_rfl) (by kernel_rfl) (by kernel_rfl) (fun _ _ _ h => hP _ _ _ _ _ h) (fun _ _ h => h) (Or.inr ⟨by rfl, fun W _ => ⟨29, #[.int .u64 (x : Nat), .int .i64 3], ?_, (drop_any x 3 W Hx.out (by omega)).mono (fun _ _ h => ⟨h.1, 0, h.2.symm⟩)⟩⟩) hSd ?_
  · first | (go_simp; done) | (go_simp; with_reducible rfl)
  try simp only [Act.put, List.setIfInBounds_toArray, List.set_cons_zero, List.set_cons_succ]
  refine wpAnyD_take (i := 20) (oi := ⟨_, _, _, _, _, _⟩) (v := ?_) rfl (by kernel_rfl) (by kernel_rfl) (by kernel_rfl) (by kernel_rfl) (fun _ _ _ h => hP _ _ _ _ _ h) (fun _ _ h => h) (Or.inl (Or.inl ⟨by rfl, ?_⟩)) hSd ?_
  rotate_left
  · intro W hSw; (try dsimp only at hSw); first | (go_simp; done) | (go_simp; with_reducible rfl)
  try simp only [Act.put, List.setIfInBounds_toArray, List.set_cons_zero, List.set_cons_succ]
  refine wpAnyD_take (i := 21) (oi := ⟨_, _, _, _, _, _⟩) (v := ?_) rfl (by kernel_rfl) (by kernel_rfl) (by kernel_rfl) (by kernel_rfl) (fun _ _ _ h => hP _ _ _ _ _ h) (fun _ _ h => h) (Or.inl (Or.inl ⟨by rfl, ?_⟩)) hSd ?_
  rotate_left
  · intro W hSw; (try dsimp only at hSw); first | (go_simp; done) | (go_simp; with_reducible rfl)
  try simp only [Act.put, List.setIfInBounds_toArray, List.set_cons_zero, List.set_cons_succ]
  refine wpAnyD_take (i := 22) (oi := ⟨_, _, _, _, _, _⟩) (v := ?_) rfl (by kernel_rfl) (by kernel_rfl) (by kernel_rfl) (by kernel_rfl) (fun _ _ _ h => hP _ _ _ _ _ h) (fun _ _ h => h) (Or.inl (Or.inl ⟨by rfl, ?_⟩)) hSd ?_
  rotate_left
  · intro W hSw; (try dsimp only at hSw); first | (go_simp; done) | (go_simp; with_reducible rfl)
  try simp only [Act.put, List.setIfInBounds_toArray, List.set_cons_zero, List.set_cons_succ]
  refine wpAnyD_take (i := 23) (oi := ⟨_, _, _, _, _, _⟩) (v := .int .u64 ((rotN y 17 : Nat) : Int)) rfl (by kernel_rfl) (by kernel_rfl) (by kernel_rfl) (by kernel_rfl) (fun _ _ _ h => hP _ _ _ _ _ h) (fun _ _ h => h) (Or.inr ⟨by rfl, fun W _ => ⟨28, #[.int .u64 (y : Nat), .int .i64 17], ?_, turn_any y 17 W Hy.out (by omega)⟩⟩) hSd ?_
  · first | (go_simp; done) | (go_simp; with_reducible rfl)
  try simp only [Act.put, List.setIfInBounds_toArray, List.set_cons_zero, List.set_cons_succ]
  refine wpAnyD_take (i := 24) (oi := ⟨_, _, _, _, _, _⟩) (v := ?_) rfl (by kernel_rfl) (by kernel_rfl) (by kernel_rfl) (by kernel_rfl) (fun _ _ _ h => hP _ _ _ _ _ h) (fun _ _ h => h) (Or.inl (Or.inl ⟨by rfl, ?_⟩)) hSd ?_
  rotate_left
  · intro W hSw; (try dsimp only at hSw); first | (go_simp; done) | (go_simp; with_reducible rfl)
  try simp only [Act.put, List.setIfInBounds_toArray, List.set_cons_zero, List.set_cons_succ]
  refine wpAnyD_take (i := 25) (oi := ⟨_, _, _, _, _, _⟩) (v := .int .u64 ((rotN y 19 : Nat) : Int)) rfl (by kernel_rfl) (by kernel_rfl) (by kernel_rfl) (by kernel_rfl) (fun _ _ _ h => hP _ _ _ _ _ h) (fun _ _ h => h) (Or.inr ⟨by rfl, fun W _ => ⟨28, #[.int .u64 (y : Nat), .int .i64 19], ?_, turn_any y 19 W Hy.out (by omega)⟩⟩) hSd ?_
  · first | (go_simp; done) | (go_simp; with_reducible rfl)
  try simp only [Act.put, List.setIfInBounds_toArray, List.set_cons_zero, List.set_cons_succ]
  refine wpAnyD_take (i := 26) (oi := ⟨_, _, _, _, _, _⟩) (v := ?_) rfl (by kernel_rfl) (by kernel_rfl) (by kernel_rfl) (by kernel_rfl) (fun _ _ _ h => hP _ _ _ _ _ h) (fun _ _ h => h) (Or.inl (Or.inl ⟨by rfl, ?_⟩)) hSd ?_
  rotate_left
  · intro W hSw; (try dsimp only at hSw); first | (go_simp; done) | (go_simp; with_reducible rfl)
  try simp only [Act.put, List.setIfInBounds_toArray, List.set_cons_zero, List.set_cons_succ]
  refine wpAnyD_take (i := 27) (oi := ⟨_, _, _, _, _, _⟩) (v := ?_) rfl (by kernel_rfl) (by kernel_rfl) (by kernel_rfl) (by kernel_rfl) (fun _ _ _ h => hP _ _ _ _ _ h) (fun _ _ h => h) (Or.inl (Or.inl ⟨by rfl, ?_⟩)) hSd ?_
  rotate_left
  · intro W hSw; (try dsimp only at hSw); first | (go_simp; done) | (go_simp; with_reducible rfl)
  try simp only [Act.put, List.setIfInBounds_toArray, List.set_cons_zero, List.set_cons_succ]
  refine wpAnyD_take (i := 28) (oi := ⟨_, _, _, _, _, _⟩) (v := .int .u64 ((y / 2 ^ 10 : Nat) : Int)) rfl (by kernel_rfl) (by kernel_rfl) (by kernel_rfl) (by kernel_rfl) (fun _ _ _ h => hP _ _ _ _ _ h) (fun _ _ h => h) (Or.inr ⟨by rfl, fun W _ => ⟨29, #[.int .u64 (y : Nat), .int .i64 10], ?_, (drop_any y 10 W Hy.out (by omega)).mono (fun _ _ h => ⟨h.1, 0, h.2.symm⟩)⟩⟩) hSd ?_
  · first | (go_simp; done) | (go_simp; with_reducible rfl)
  try simp only [Act.put, List.setIfInBounds_toArray, List.set_cons_zero, List.set_cons_succ]
  refine wpAnyD_take (i := 29) (oi := ⟨_, _, _, _, _, _⟩) (v := ?_) rfl (by kernel_rfl) (by kernel_rfl) (by kernel_rfl) (by kernel_rfl) (fun _ _ _ h => hP _ _ _ _ _ h) (fun _ _ h => h) (Or.inl (Or.inl ⟨by rfl, ?_⟩)) hSd ?_
  rotate_left
  · intro W hSw; (try dsimp only at hSw); first | (go_simp; done) | (go_simp; with_reducible rfl)
  try simp only [Act.put, List.setIfInBounds_toArray, List.set_cons_zero, List.set_cons_succ]
  refine wpAnyD_take (i := 30) (oi := ⟨_, _, _, _, _, _⟩) (v := ?_) rfl (by kernel_rfl) (by kernel_rfl) (by kernel_rfl) (by kernel_rfl) (fun _ _ _ h => hP _ _ _ _ _ h) (fun _ _ h => h) (Or.inl (Or.inl ⟨by rfl, ?_⟩)) hSd ?_
  rotate_left
  · intro W hSw; (try dsimp only at hSw); first | (go_simp; done) | (go_simp; with_reducible rfl)
  try simp only [Act.put, List.setIfInBounds_toArray, List.set_cons_zero, List.set_cons_succ]
  refine wpAnyD_take (i := 31) (oi := ⟨_, _, _, _, _, _⟩) (v := ?_) rfl (by kernel_rfl) (by kernel_rfl) (by kernel_rfl) (by kernel_rfl) (fun _ _ _ h => hP _ _ _ _ _ h) (fun _ _ h => h) (Or.inl (Or.inl ⟨by rfl, ?_⟩)) hSd ?_
  rotate_left
  · intro W hSw; (try dsimp only at hSw); first | (go_simp; done) | (go_simp; with_reducible rfl)
  try simp only [Act.put, List.setIfInBounds_toArray, List.set_cons_zero, List.set_cons_succ]
  refine wpAnyD_take (i := 32) (oi := ⟨_, _, _, _, _, _⟩) (v := ?_) rfl (by kernel_rfl) (by kernel_rfl) (by kernel_rfl) (by kernel_rfl) (fun _ _ _ h => hP _ _ _ _ _ h) (fun _ _ h => h) (Or.inl (Or.inl ⟨by rfl, ?_⟩)) hSd ?_
  rotate_left
  · intro W hSw; (try dsimp only at hSw); first | (go_simp; done) | (go_simp; with_reducible rfl)
  try simp only [Act.put, List.setIfInBounds_toArray, List.set_cons_zero, List.set_cons_succ]
  refine wpAnyD_take (i := 33) (oi := ⟨_, _, _, _, _, _⟩) (v := ?_) rfl (by kernel_rfl) (by kernel_rfl) (by kernel_rfl) (by kernel_rfl) (fun _ _ _ h => hP _ _ _ _ _ h) (fun _ _ h => h) (Or.inl (Or.inl ⟨by rfl, ?_⟩)) hSd ?_
  rotate_left
  · intro W hSw; (try dsimp only at hSw); first | (go_simp; done) | (go_simp; with_reducible rfl)
  try simp only [Act.put, List.setIfInBounds_toArray, List.set_cons_zero, List.set_cons_succ]
  refine wpAnyD_last (by kernel_rfl) (fun nd => ?_)
  refine wpOp_one rfl (by rfl) ?_
  have A5 := Lib.hid ((A2.out.on (below_draw wb wr 1)).on (below_draw wb (wr.drewN 1) nd))
  have HS5 := Lib.hid (HST.out ((wr.drewN 1).drewN nd) rfl z)
  have hz5 : wb < ((wr.drewN 1).drewN nd).heap.size := hz2.out
  have hcd : ((wr.drewN 1).drewN nd).cell? ⟨wb, k, none⟩ = some uk := CK.out
  have hfd : ((wr.drewN 1).drewN nd).frozen? ⟨wb, k, none⟩ = false := FK.out
  change Oper.wp _ _ _ ((wr.drewN 1).drewN nd) _ _
  generalize (wr.drewN 1).drewN nd = wd at *
  clear hSd c16 c7 c15 c2 A2
  go_simp
  go_wp2_with fail
  exact hQ _ _ _ _ _ _ _ _ _ _ _ _ _ _ _ _ _ _ _ _ _ _ _ _ _ _ _ _ _ _ _ _ _ _ _ _ _ _ _ _ _ _ _ _ _ _ _ _ _ _ _ _ _ _ _ _ _ _ _ _ _ _ _ _ _ _ _ _ _ _ _ _ _ _ _ _ _ (by have h := HS5.out; rwa [HSS.out z (HSN.out z HZ.out)] at h) (A5.out.on (below_words wd wb k _ (Nat.le_refl _))) (by simp; omega)
end Go.Proofs.YtdolonkeanlaoaaDoor
