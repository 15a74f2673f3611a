/- The files of the first path that any snapshot has left: next. -/
import Derived.Test.YtjlpdoppnhcjoaaDoorJnM
import Derived.BigRegion
namespace Go.Proofs.YtjlpdoppnhcjoaaDoor
open Go.RowKit Go.Lib
attribute [local simp high] files_size outcome_size id_size n135_ne n138_ne n32_ne n34_ne outcome_zero file_size files_zero
theorem Left.kept {S : Nat → Prop} {w w' : World} {lb : Nat} {a : Nat → Option Addr} {c : Nat → Nat} {l : Nat → List FileN} (h : Left S w lb a c l) (hk : ∀ q, q = lb ∨ S q → w'.heap[q]? = w.heap[q]?) : Left S w' lb a c l :=
  ⟨h.blk.kept (hk lb (Or.inl rfl)), fun i hi => (h.rows i hi).kept file_keeps (fun q hq => ⟨hq, hk q (Or.inr hq)⟩)⟩
/-- The tail of one of the lists is stored. -/
theorem Left.put {S : Nat → Prop} {w : World} {lb : Nat} {a : Nat → Option Addr} {c : Nat → Nat} {l : Nat → List FileN} (h : Left S w lb a c l) (hSl : ¬ S lb) {k : Nat} (hk : k < 3) {a' : Option Addr} {c' : Nat} {r : List FileN} (hr : FilesC S w (.slice a' r.length c') r) :
    Left S (w.setCell ⟨lb, k, none⟩ (.slice a' r.length c')) lb (fun j => if j = k then a' else a j) (fun j => if j = k then c' else c j) (fun j => if j = k then r else l j) := by
  have key : ∀ q, S q → S q ∧ (w.setCell ⟨lb, k, none⟩ (.slice a' r.length c')).heap[q]? = w.heap[q]? := fun q hq => ⟨hq, Below.heap_setCell _ _ _ _ (fun e => hSl (by have e2 : q = lb := e; rw [← e2]; exact hq))⟩
  refine ⟨(h.blk.set hk _).congr (fun j hj => ?_), fun i hi => ?_⟩
  · by_cases e : j = k
    · subst e; simp
    · simp [e]
  · by_cases e : i = k
    · subst e; simp only [if_pos]; exact hr.kept file_keeps key
    · simp only [if_neg e]; exact (h.rows i hi).kept file_keeps key
theorem Only.on {b : Nat} {w0 w w' : World} {row : Option Nat} (h : Only b w w') (g : w0.grownBy w row) (hb : w0.heap.size ≤ b) : w0.grownBy w' row := by
  have k := h.gb
  refine ⟨k.os.trans g.os, k.tape.trans g.tape, k.output.trans g.output, by rw [h.size]; exact g.size, fun i hi hne => (h.far i (by omega)).trans (g.block i hi hne)⟩
/-- Behind the first k lists. -/
structure NextI (S : Nat → Prop) (w : World) (lb : Nat) (l : Nat → List FileN) (p : List UInt8) (a : Nat → Option Addr) (c : Nat → Nat) (k : Nat) (wr : World) : Prop where
  f : FAt wr (w.heap.size + 1) (outK l p k) (stK l p k)
  r : RF wr w.heap.size 74 n138 (filF noOut zst)
  l : Left S wr lb a c (restK l p k)
  g : w.grownBy wr (some lb)
theorem NextI.drew {S : Nat → Prop} {w wr : World} {lb : Nat} {l : Nat → List FileN} {p : List UInt8} {a : Nat → Option Addr} {c : Nat → Nat} {k : Nat} (h : NextI S w lb l p a c k wr) (n : Nat) : NextI S w lb l p a c k (wr.drewN n) :=
  ⟨h.f.drew n, h.r.kept rfl, h.l.kept (fun _ _ => rfl), gbt h.g (gb_drew wr n _)⟩
theorem NextI.no {S : Nat → Prop} {w wr : World} {lb : Nat} {l : Nat → List FileN} {p : List UInt8} {a : Nat → Option Addr} {c : Nat → Nat} {k : Nat} (h : NextI S w lb l p a c k wr) (hn : hasN l p k = false) : NextI S w lb l p a c (k + 1) wr :=
  ⟨by rw [outK_no hn, stK_no hn]; exact h.f, h.r, by rw [restK_no hn]; exact h.l, h.g⟩
set_option maxRecDepth 100000 in
set_option maxHeartbeats 8000000 in
theorem next_any (S : Nat → Prop) (p : List UInt8) (lb : Nat) (a : Nat → Option Addr) (c : Nat → Nat) (l : Nat → List FileN) (w : World) (hS : ∀ k, S k → k < w.heap.size) (hSl : ¬ S lb) (h : Left S w lb a c l) (hcp : (curAt l 3).getD [] = p) (hl : ∀ i, i < 3 → (l i).length ≤ 4194304) (hp : ∀ i, i < 3 → ∀ f ∈ l i, f.path.length ≤ 4194304) :
    Calls Tryd.prog 24 #[.pointer (some ⟨lb, 0, none⟩)] w fun e w' => e = .returned (.tuple #[.agg (rowL n138 (filF (outK l p 3) (stK l p 3))).toArray, .bool (curAt l 3).isSome]) ∧ (∃ a' c', Left S w' lb a' c' (restK l p 3)) ∧ w.grownBy w' (some lb) := by
  have i1 := RF.new w 74 n138 (filF noOut zst)
  have i2 := RF.new (w.alloc (.cells (rowL n138 (filF noOut zst)).toArray 74)) 74 n138 (filF noOut zst)
  have hsz : (w.alloc (.cells (rowL n138 (filF noOut zst)).toArray 74)).heap.size = w.heap.size + 1 := by simp
  rw [hsz] at i2
  replace i1 := i1.kept (w' := (w.alloc (.cells (rowL n138 (filF noOut zst)).toArray 74)).alloc (.cells (rowL n138 (filF noOut zst)).toArray 74)) (Below.heap_alloc _ _ _ (by simp))
  have HB0 := Lib.hid (((Below.refl w.heap.size w).alloc (Nat.le_refl _) (.cells (rowL n138 (filF noOut zst)).toArray 74)).alloc (by simp) (.cells (rowL n138 (filF noOut zst)).toArray 74))
  have HR0 := Lib.hid i1
  have HF0 : Hid (FAt ((w.alloc (.cells (rowL n138 (filF noOut zst)).toArray 74)).alloc (.cells (rowL n138 (filF noOut zst)).toArray 74)) (w.heap.size + 1) (curO l 0) zst) := Lib.hid i2
  have hlb := h.blk.lt
  have HL := Lib.hid (fun (W : World) (hW : Below w.heap.size w W) k (hk : k < 3) => (World.cell?_of_block (w := w) (hW.block lb hlb)).trans (h.blk.cell hk))
  have HRW := Lib.hid (fun (W : World) (hW : Below w.heap.size w W) k (hk : k < 3) => (h.rows k hk).kept file_keeps (S' := S) (w' := W) (fun q hq => ⟨hq, hW.block q (hS q hq)⟩))
  have HLL := Lib.hid hl
  have HPL := Lib.hid hp
  have HPH : Hid (∀ i, i < 3 → (l i).length ≠ 0 → (headP (l i)).length ≤ 4194304) := Lib.hid (fun i hi h0 => hp i hi _ (by simp [List.getD, show 0 < (l i).length by omega]))
  have HLF := Lib.hid h
  clear i1 i2 h hl hp
  go_enter Tryd.func24, Tryd.ntmps24
  go_upto_region 2 with fail
  change Code.wp _ _ _ _ ((w.alloc (.cells (rowL n138 (filF noOut zst)).toArray 74)).alloc (.cells (rowL n138 (filF noOut zst)).toArray 74))
  generalize (w.alloc (.cells (rowL n138 (filF noOut zst)).toArray 74)).alloc (.cells (rowL n138 (filF noOut zst)).toArray 74) = w1 at *
  go_wp2_with fail
  go_loopw [5, 12] (fun f i wr => ∃ k : Nat, k ≤ 3 ∧ i = .int .i64 (k : Int) ∧ f = .bool (curAt l k).isSome ∧ Hid (FAt wr (w.heap.size + 1) (curO l k) zst) ∧ Hid (RF wr w.heap.size 74 n138 (filF noOut zst)) ∧ Hid (Below w.heap.size w wr)) (fun _ i _ => 3 - (intOf i).toNat)
  case atStart => exact ⟨0, by omega, rfl, rfl, HF0, HR0, HB0⟩
  case round =>
    obtain ⟨k, hk, rfl, rfl, hF, hR, hB⟩ := hrel
    by_cases hlt : k < 3
    · have ck := HL.out wr hB.out k hlt
      have hlk := HLL.out k hlt
      obtain ⟨cu, hcu⟩ : ∃ x, curAt l k = x := ⟨_, rfl⟩
      have HCU : Hid (curAt l (k + 1) = stepC (l k).length (headP (l k)) cu) := Lib.hid (by rw [← hcu]; rfl)
      have HCK := Lib.hid hcu
      have HCL : Hid (∀ q, curAt l k = some q → q.length ≤ 4194304) := Lib.hid (curAt_len HPH.out k (by omega))
      have c2 : wr.cell? ⟨w.heap.size + 1, 0, none⟩ = some (.string ⟨(cu.getD []).toArray⟩) := by rw [← hcu]; exact hF.out.path
      rw [hcu]
      clear hcu
      have HHD : Hid ((l k).length ≠ 0 → ∃ g o, a k = some ⟨g, o, none⟩ ∧ (∀ n, (wr.drewN n).cell? ⟨g, o, none⟩ = some (.string ⟨(headP (l k)).toArray⟩)) ∧ (headP (l k)).length ≤ 4194304) := Lib.hid (fun h0 => by
        obtain ⟨g, o, e, _, _, _, hat⟩ := FilesC.at (HRW.out wr hB.out k hlt) (by omega)
        refine ⟨g, o, e, fun n => ?_, ?_⟩
        · have h := hat 0 (by omega) 0 (by omega)
          simp only [Nat.zero_mul, Nat.add_zero] at h
          exact h
        · exact HPL.out k hlt _ (by simp [List.getD, show 0 < (l k).length by omega]))
      by_cases h0 : (l k).length = 0
      · have HNX : Hid (curAt l (k + 1) = cu) := Lib.hid (by
          rw [HCU.out, h0]
          unfold stepC
          rw [if_neg (by cases cu <;> simp [wantB])])
        rw [h0] at ck
        clear HHD h0
        go_upto_region 6 with fail
        clear ck
        go_quiet (fail)
        have HF7 : Hid (FAt (wr.drewN nq) (w.heap.size + 1) (curO l (k + 1)) zst) := Lib.hid (by
          have e7 : curO l (k + 1) = curO l k := by unfold curO; rw [HNX.out, HCK.out]
          rw [e7]; exact hF.out.kept rfl)
        have HR7 : Hid (RF (wr.drewN nq) w.heap.size 74 n138 (filF noOut zst)) := Lib.hid (hR.out.kept rfl)
        have HB7 : Hid (Below w.heap.size w (wr.drewN nq)) := Lib.hid (hB.out.trans ((drewn _ _ _).mono hB.out.size))
        clear c2
        generalize wr.drewN nq = w7 at *
        go_wp2_with fail
        exact ⟨⟨k + 1, by omega, by go_num, by rw [HNX.out], HF7, HR7, HB7⟩, by simp [intOf]; omega⟩
      · obtain ⟨g, o, e, ch, hhl⟩ := HHD.out h0
        have ch0 := ch 0
        change wr.cell? ⟨g, o, none⟩ = _ at ch0
        have gp : 0 < (l k).length := by omega
        have HN0 := Lib.hid h0
        rw [e] at ck
        clear e h0 HHD
        obtain ⟨hd, hhd⟩ : ∃ h, headP (l k) = h := ⟨_, rfl⟩
        rw [hhd] at ch ch0 hhl HCU
        clear hhd
        cases cu with
        | none =>
          have HNX : Hid (curAt l (k + 1) = some hd) := Lib.hid (by
            rw [HCU.out]; exact stepC_none hd HN0.out)
          go_upto_region 6 with fail
          clear ck
          go_quiet (fail)
          have hF7 : FAt (wr.drewN nq) (w.heap.size + 1) (curO l k) zst := hF.out.kept rfl
          have hR7 : RF (wr.drewN nq) w.heap.size 74 n138 (filF noOut zst) := hR.out.kept rfl
          have HB7 : Hid (Below w.heap.size w (wr.drewN nq)) := Lib.hid (hB.out.trans ((drewn _ _ _).mono hB.out.size))
          have ch7 := ch nq
          have c7 : (wr.drewN nq).cell? ⟨w.heap.size + 1, 0, none⟩ = some (.string ⟨(curO l k).path.toArray⟩) := hF7.path
          have f7 : (wr.drewN nq).frozen? ⟨w.heap.size + 1, 0, none⟩ = false := hF7.free 0
          have HF7 := Lib.hid hF7
          have HR7 := Lib.hid hR7
          clear hF7 hR7 c2 ch
          generalize wr.drewN nq = w7 at *
          go_wp2_with fail
          refine ⟨⟨k + 1, by omega, by go_num, by rw [HNX.out]; rfl, Lib.hid ?_, Lib.hid (HR7.out.kept (Below.heap_setCell w7 ⟨w.heap.size + 1, 0, none⟩ _ _ (by simp))), Lib.hid (HB7.out.setCell (by simp) _)⟩, by simp [intOf]; omega⟩
          have hx := HF7.out.setPath hd
          have e7 : curO l (k + 1) = { curO l k with path := hd } := by unfold curO; rw [HNX.out]; rfl
          rw [e7]
          exact hx
        | some q =>
          have hpl : q.length ≤ 140737488355328 := by have := HCL.out q HCK.out; omega
          have HC := Lib.hid (fun W => compare_any hd q W (by omega) hpl)
          obtain ⟨cm, hcm⟩ : ∃ c, cmpP hd q = c := ⟨_, rfl⟩
          rw [hcm] at HC
          have HCM := Lib.hid hcm
          clear hcm
          change wr.cell? ⟨w.heap.size + 1, 0, none⟩ = some (.string ⟨q.toArray⟩) at c2
          by_cases hneg : cm < 0
          · have HNX : Hid (curAt l (k + 1) = some hd) := Lib.hid (by
              rw [HCU.out]; exact stepC_less HN0.out (by rw [HCM.out]; exact hneg))
            go_upto_region 6 with fail
            clear ck
            go_quiet ((go_at_call 22; exact Calls.quiet_of (HC.out _)))
            have hF7 : FAt (wr.drewN nq) (w.heap.size + 1) (curO l k) zst := hF.out.kept rfl
            have hR7 : RF (wr.drewN nq) w.heap.size 74 n138 (filF noOut zst) := hR.out.kept rfl
            have HB7 : Hid (Below w.heap.size w (wr.drewN nq)) := Lib.hid (hB.out.trans ((drewn _ _ _).mono hB.out.size))
            have ch7 := ch nq
            have c7 : (wr.drewN nq).cell? ⟨w.heap.size + 1, 0, none⟩ = some (.string ⟨(curO l k).path.toArray⟩) := hF7.path
            have f7 : (wr.drewN nq).frozen? ⟨w.heap.size + 1, 0, none⟩ = false := hF7.free 0
            have HF7 := Lib.hid hF7
            have HR7 := Lib.hid hR7
            clear hF7 hR7 c2 ch
            generalize wr.drewN nq = w7 at *
            go_wp2_with fail
            refine ⟨⟨k + 1, by omega, by go_num, by rw [HNX.out]; rfl, Lib.hid ?_, Lib.hid (HR7.out.kept (Below.heap_setCell w7 ⟨w.heap.size + 1, 0, none⟩ _ _ (by simp))), Lib.hid (HB7.out.setCell (by simp) _)⟩, by simp [intOf]; omega⟩
            have hx := HF7.out.setPath hd
            have e7 : curO l (k + 1) = { curO l k with path := hd } := by unfold curO; rw [HNX.out]; rfl
            rw [e7]
            exact hx
          · have HNX : Hid (curAt l (k + 1) = some q) := Lib.hid (by
              rw [HCU.out]; exact stepC_stay (by rw [HCM.out]; exact hneg))
            go_upto_region 6 with fail
            clear ck
            go_quiet ((go_at_call 22; exact Calls.quiet_of (HC.out _)))
            have HF7 : Hid (FAt (wr.drewN nq) (w.heap.size + 1) (curO l (k + 1)) zst) := Lib.hid (by
              have e7 : curO l (k + 1) = curO l k := by unfold curO; rw [HNX.out, HCK.out]
              rw [e7]; exact hF.out.kept rfl)
            have HR7 : Hid (RF (wr.drewN nq) w.heap.size 74 n138 (filF noOut zst)) := Lib.hid (hR.out.kept rfl)
            have HB7 : Hid (Below w.heap.size w (wr.drewN nq)) := Lib.hid (hB.out.trans ((drewn _ _ _).mono hB.out.size))
            clear c2
            generalize wr.drewN nq = w7 at *
            go_wp2_with fail
            exact ⟨⟨k + 1, by omega, by go_num, by rw [HNX.out], HF7, HR7, HB7⟩, by simp [intOf]; omega⟩
    · obtain rfl : k = 3 := by omega
      go_wp2_with fail
      have hF0 := hF.out
      have hR0 := hR
      have hB0 := hB.out
      have hF1 : FAt wr (w.heap.size + 1) (outK l p 0) (stK l p 0) := by
        have e : curO l 3 = outK l p 0 := by rw [outK_zero]; unfold curO; rw [hcp]
        rw [← e, stK_zero]; exact hF0
      have HI2 : Hid (NextI S w lb l p a c 0 wr) := Lib.hid ⟨hF1, hR0.out, (by
        rw [restK_zero]
        exact ⟨HLF.out.blk.kept (hB0.block lb hlb), fun i hi => HRW.out wr hB0 i hi⟩), gbb hB0 _⟩
      clear hF0 hB0 hF1 hF hR hB hR0 HLF HB0 HR0 HF0 HL HRW
      go_loopw [44] (fun i wr => ∃ (k : Nat) (a : Nat → Option Addr) (c : Nat → Nat), k ≤ 3 ∧ i = .int .i64 (k : Int) ∧ Hid (NextI S w lb l p a c k wr)) (fun i _ => 3 - (intOf i).toNat)
      case atStart => exact ⟨0, a, c, by omega, rfl, HI2⟩
      case round =>
        clear HI2
        obtain ⟨k, a, c, hk, rfl, hI⟩ := hrel
        by_cases hlt : k < 3
        · have ck := hI.out.l.blk.cell hlt
          have hrk := hI.out.l.rows k hlt
          rw [restK_at] at ck hrk
          have hlk := HLL.out k hlt
          have c2 : wr.cell? ⟨w.heap.size + 1, 0, none⟩ = some (.string ⟨p.toArray⟩) := hI.out.f.path
          by_cases h0 : (l k).length = 0
          · have HNX := Lib.hid (hasN_zero (p := p) h0)
            rw [h0] at ck
            clear hrk h0
            go_upto_region 11 with fail
            go_quiet (fail)
            have HI3 := Lib.hid (hI.out.drew nq)
            have c3 : (wr.drewN nq).cell? ⟨w.heap.size + 1, 0, none⟩ = some (.string ⟨p.toArray⟩) := HI3.out.f.path
            clear ck c2 hI
            generalize wr.drewN nq = w3 at *
            go_upto_region 12 with fail
            go_quiet (fail)
            have HI4 := Lib.hid (HI3.out.drew nq)
            clear c3 HI3
            generalize w3.drewN nq = w4 at *
            go_wp2_with fail
            exact ⟨⟨k + 1, a, c, by omega, by go_num, Lib.hid (HI4.out.no HNX.out)⟩, by simp [intOf]; omega⟩
          · have HPK : Hid (((l k).getD 0 noFile).path = headP (l k)) := Lib.hid rfl
            obtain ⟨g, o, e, hSg, _, _, hat⟩ := FilesC.at hrk (by omega)
            have gp : 0 < (l k).length := by omega
            obtain ⟨a', c', hcut, htl⟩ := FilesC.tail hrk h0
            rw [e] at ck hcut
            have HTL := Lib.hid htl
            have HHD := Lib.hid (hasN_dec (p := p) h0)
            have HCF := Lib.hid (fun n j (hj : j < 34) => (show (wr.drewN n).cell? ⟨g, o + 0 * n34 + j, none⟩ = _ from hat 0 (by omega) j hj))
            have HSG := Lib.hid hSg
            have ch0 : wr.cell? ⟨g, o, none⟩ = some (.string ⟨(headP (l k)).toArray⟩) := by
              have h := hat 0 (by omega) 0 (by omega)
              simp only [Nat.zero_mul, Nat.add_zero] at h
              exact h
            have HCUT := Lib.hid hcut
            clear htl hcut hat hrk e hSg h0
            obtain ⟨hd, hhd⟩ : ∃ h, headP (l k) = h := ⟨_, rfl⟩
            rw [hhd] at ch0 HHD HPK
            clear hhd
            go_upto_region 11 with fail
            go_quiet (fail)
            have HI3 := Lib.hid (hI.out.drew nq)
            have c3 : (wr.drewN nq).cell? ⟨w.heap.size + 1, 0, none⟩ = some (.string ⟨p.toArray⟩) := HI3.out.f.path
            have ch3 : (wr.drewN nq).cell? ⟨g, o, none⟩ = some (.string ⟨hd.toArray⟩) := ch0
            have HTL3 : Hid (FilesC S (wr.drewN nq) (.slice a' ((l k).drop 1).length c') ((l k).drop 1)) := Lib.hid (HTL.out.kept file_keeps (fun q hq => ⟨hq, rfl⟩))
            have HCF3 : Hid (∀ n j, j < 34 → ((wr.drewN nq).drewN n).cell? ⟨g, o + 0 * n34 + j, none⟩ = some (fileF ((l k).getD 0 noFile) j)) := Lib.hid (fun n j hj => HCF.out nq j hj)
            clear ck c2 hI ch0 HTL HCF
            generalize wr.drewN nq = w3 at *
            by_cases heq : hd = p
            · subst heq
              have HNX : Hid (hasN l hd k = true) := Lib.hid (by rw [HHD.out, decide_eq_true rfl])
              have heq : (hd == hd) = true := beq_self_eq_true hd
              go_upto_region 12 with fail
              go_quiet (fail)
              have HI4 := Lib.hid (HI3.out.drew nq)
              have HTL4 : Hid (FilesC S (w3.drewN nq) (.slice a' ((l k).drop 1).length c') ((l k).drop 1)) := Lib.hid (HTL3.out.kept file_keeps (fun q hq => ⟨hq, rfl⟩))
              have HCF4 : Hid (∀ j, j < 34 → (w3.drewN nq).cell? ⟨g, o + 0 * n34 + j, none⟩ = some (fileF ((l k).getD 0 noFile) j)) := Lib.hid (fun j hj => HCF3.out nq j hj)
              clear c3 HI3 ch3 HTL3 HCF3 heq
              generalize w3.drewN nq = w4 at *
              obtain ⟨x, hx⟩ : ∃ x, (l k).getD 0 noFile = x := ⟨_, rfl⟩
              have HX : Hid (headF (l k) = x) := Lib.hid hx
              rw [hx] at HCF4 HPK
              clear hx
              have hgl : g ≠ w.heap.size + 1 := fun e => by have := hS g HSG.out; omega
              have HQ1 := Lib.hid (fun (W : World) (hW : W.heap[g]? = w4.heap[g]?) => (show (loadCellsFrom ⟨g, o + 1, none⟩ 0 n32 #[]).run Tryd.prog W = .ok (bv (idL x.id)).toArray W from by
                have q := load_row W g (o + 1) n32 (idF x.id) (fun j hj => by
                  have e : n32 = 32 := rfl
                  have h := HCF4.out (1 + j) (by omega)
                  rw [Nat.zero_mul, Nat.add_zero, ← Nat.add_assoc] at h
                  rw [World.cell?_of_block (w := w4) hW, h]; unfold fileF idF
                  rw [if_neg (by omega), if_pos (by omega), show 1 + j - 1 = j by omega])
                rw [idL_row] at q
                exact q))
              have HQ2 := Lib.hid (fun (W : World) (hW : W.heap[g]? = w4.heap[g]?) => (show W.cell? ⟨g, o + 33, none⟩ = some (.float .f64 x.stamp) from by
                have h := HCF4.out 33 (by omega)
                rw [Nat.zero_mul, Nat.add_zero] at h
                rw [World.cell?_of_block (w := w4) hW, h]; unfold fileF
                rw [if_neg (by omega), if_neg (by omega)]))
              have e1 : w4.cell? ⟨w.heap.size + 1, 36 + k, none⟩ = _ := HI4.out.f.has hlt
              have f1 : w4.frozen? ⟨w.heap.size + 1, 36 + k, none⟩ = false := HI4.out.f.free _
              have y1 := (HI4.out.f.setHas hlt true).drew 1
              have OA := (Only.set (w.heap.size + 1) (36 + k) w4 (.bool true)).trans (Only.drew (w.heap.size + 1) 1 _)
              have hwa : (w4.setCell ⟨w.heap.size + 1, 36 + k, none⟩ (.bool true)).drewN 1 = (w4.setCell ⟨w.heap.size + 1, 36 + k, none⟩ (.bool true)).drew := rfl
              rw [hwa] at y1 OA
              obtain ⟨w5, s2, y2, O2⟩ := y1.setIds hlt x.id
              have OB := OA.trans O2
              have q1 := HQ1.out w4.drew rfl
              have q1a := HQ1.out _ (OA.far g hgl)
              have q2 := HQ2.out w4.drew rfl
              have q2a := HQ2.out _ (OA.far g hgl)
              have q2b := HQ2.out w5 (OB.far g hgl)
              have e3 : w5.cell? ⟨w.heap.size + 1, 135 + k, none⟩ = _ := y2.stamps hlt
              have s3 := store_float w5 _ x.stamp e3 (y2.free (135 + k))
              have y3 := Lib.hid (y2.setStamps hlt x.stamp)
              have O3 := Lib.hid (OB.trans (Only.set (w.heap.size + 1) (135 + k) w5 (.float .f64 x.stamp)))
              clear hwa HQ1 HQ2 OA OB y1 y2 O2 e3
              have hol : (bv (idL x.id)).length = n32 := by rw [bv_len, idL_len]; rfl
              generalize bv (idL x.id) = ix at *
              generalize (outK l hd k).has k = ob at *
              have HL6 : Hid (Left S (w5.setCell ⟨w.heap.size + 1, 135 + k, none⟩ (.float .f64 x.stamp)) lb a c (restK l hd k)) := Lib.hid (HI4.out.l.kept (fun q hq => O3.out.far q (fun e => by
                rcases hq with hq | hq
                · omega
                · have := hS q hq; omega)))
              have HG6 := Lib.hid (O3.out.on HI4.out.g (by omega))
              have HR6 : Hid (RF (w5.setCell ⟨w.heap.size + 1, 135 + k, none⟩ (.float .f64 x.stamp)) w.heap.size 74 n138 (filF noOut zst)) := Lib.hid (HI4.out.r.kept (O3.out.far _ (by omega)))
              have HTL6 : Hid (FilesC S (w5.setCell ⟨w.heap.size + 1, 135 + k, none⟩ (.float .f64 x.stamp)) (.slice a' ((l k).drop 1).length c') ((l k).drop 1)) := Lib.hid (HTL4.out.kept file_keeps (fun q hq => ⟨hq, O3.out.far q (fun e => by have := hS q hq; omega)⟩))
              have hcut := HCUT.out
              clear HI4 HTL4 HCF4
              go_upto_region 13 with fail
              go_region
              clear q1 q1a q2 q2a q2b e1 f1 s2 s3 hol O3
              generalize w5.setCell ⟨w.heap.size + 1, 135 + k, none⟩ (.float .f64 x.stamp) = w6 at *
              have e4 := HL6.out.blk.cell hlt
              have f4 : w6.frozen? ⟨lb, k, none⟩ = false := HL6.out.blk.free k
              have HI7 : Hid (NextI S w lb l hd (fun j => if j = k then a' else a j) (fun j => if j = k then c' else c j) (k + 1) (w6.setCell ⟨lb, k, none⟩ (.slice a' ((l k).drop 1).length c')).drew) := Lib.hid (NextI.drew (n := 1) ⟨(by
                rw [outK_yes HNX.out, stK_yes HNX.out, HX.out]
                exact y3.out.kept (Below.heap_setCell _ _ _ _ (by show w.heap.size + 1 ≠ lb; omega))), HR6.out.kept (Below.heap_setCell _ _ _ _ (by show w.heap.size ≠ lb; omega)), (by
                rw [restK_yes HNX.out]
                exact HL6.out.put hSl hlt HTL6.out), gbt HG6.out (Only.set lb k w6 _).gb⟩)
              clear HL6 HR6 HTL6 HG6 y3
              generalize restK l hd k k = rk at *
              go_upto_region 14 with fail
              go_region
              clear e4 f4 hcut
              go_wp2_with fail
              exact ⟨⟨k + 1, _, _, by omega, by go_num, Lib.hid (by have h := HI7.out; rw [List.length_drop] at h; exact h)⟩, by simp [intOf]; omega⟩
            · have HNX : Hid (hasN l p k = false) := Lib.hid (by rw [HHD.out, decide_eq_false heq])
              have hne : (hd == p) = false := beq_eq_false_iff_ne.2 heq
              go_upto_region 12 with fail
              go_quiet (fail)
              have HI4 := Lib.hid (HI3.out.drew nq)
              clear c3 HI3 ch3 HTL3 HCF3
              generalize w3.drewN nq = w4 at *
              go_wp2_with fail
              exact ⟨⟨k + 1, a, c, by omega, by go_num, Lib.hid (HI4.out.no HNX.out)⟩, by simp [intOf]; omega⟩
        · obtain rfl : k = 3 := by omega
          have hI0 := hI.out
          have hone : OneC n138 (filF (outK l p 3) (stK l p 3)) := fun j _ => by
            unfold filF
            split
            · exact out_one _ rfl n135 j (by unfold n135; omega)
            · rfl
          have q1 := load_row wr (w.heap.size + 1) 0 n138 (filF (outK l p 3) (stK l p 3)) (fun j hj => by rw [Nat.zero_add]; exact hI0.f.cell hj)
          obtain ⟨w5, s1, hr5, _, far5, size5⟩ := hI0.r.store (o := 0) (m := n138) (G := filF (outK l p 3) (stK l p 3)) (by omega) hone
          have O5 : Only w.heap.size wr w5 := ⟨far5, size5, by assumption⟩
          have q2 := load_row w5 w.heap.size 0 n138 (filF (outK l p 3) (stK l p 3)) (fun j hj => by
            have h := hr5.cell hj
            rw [if_pos ⟨Nat.zero_le _, by omega⟩, Nat.sub_zero] at h
            rw [Nat.zero_add]; exact h)
          have HL5 : Hid (Left S w5 lb a c (restK l p 3)) := Lib.hid (hI0.l.kept (fun q hq => O5.far q (fun e => by
            rcases hq with hq | hq
            · omega
            · have := hS q hq; omega)))
          have HG5 := Lib.hid (O5.on hI0.g (Nat.le_refl _))
          have hol := rowL_len n138 (filF (outK l p 3) (stK l p 3))
          clear hI0 hI hr5 far5 size5 O5 hone
          obtain ⟨R, hR⟩ : ∃ R, rowL n138 (filF (outK l p 3) (stK l p 3)) = R := ⟨_, rfl⟩
          rw [hR] at q1 q2 s1 hol
          have HRR := Lib.hid hR
          clear hR
          go_wp2_with fail
          exact bodyPost_ret (v := .tuple #[.agg R.toArray, .bool (curAt l 3).isSome]) (by simp [results, Tryd.results24, go_sem, q2]) rfl ⟨by rw [HRR.out], ⟨_, _, HL5.out⟩, HG5.out⟩
end Go.Proofs.YtjlpdoppnhcjoaaDoor
