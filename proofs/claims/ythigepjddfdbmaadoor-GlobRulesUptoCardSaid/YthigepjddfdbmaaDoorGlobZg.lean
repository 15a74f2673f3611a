/- The reference's Name. -/
import Derived.Test.YthigepjddfdbmaaDoorGlobZf
namespace Go.Proofs.YthigepjddfdbmaaDoor
open Go.RowKit Go.Lib
attribute [local simp high] at_size2 at_zero2
/-- The row after one sign more. -/
def rowF (f : Nat → Bool) (x : Option S4) (name : Txt) : Nat → Bool
  | 0 => x.isNone && f 0
  | k + 1 => match x with
    | none => f (k + 1) || rowF f x name k
    | some s => f k && hasS s (name.getD k 0).toNat
theorem rowF_many (f : Nat → Bool) (name : Txt) (k : Nat) : rowF f none name (k + 1) = (f (k + 1) || rowF f none name k) := rfl
theorem rowF_one (f : Nat → Bool) (s : S4) (name : Txt) (k : Nat) : rowF f (some s) name (k + 1) = (f k && hasS s (name.getD k 0).toNat) := rfl
theorem rowF_iff {ps : List (Option (UInt8 → Bool))} {name : Txt} {i : Nat} {x : Option S4} {f : Nat → Bool} (hp : ps[i]? = some (sItem x)) (hf : ∀ k, k ≤ name.length → (f k = true ↔ rowM ps name i k)) :
    ∀ k, k ≤ name.length → (rowF f x name k = true ↔ rowM ps name (i + 1) k) := by
  cases x with
  | none =>
    intro k
    induction k with
    | zero =>
      intro hk
      rw [rowM_many hp hk, ← hf 0 hk]
      show (true && f 0) = true ↔ _
      simp
    | succ k ih =>
      intro hk
      rw [rowM_many hp hk, rowF_many, ← hf _ hk, Bool.or_eq_true, Nat.add_sub_cancel, ih (by omega)]
      simp
  | some s =>
    intro k hk
    cases k with
    | zero =>
      rw [rowM_one hp hk 0]
      show (false && f 0) = true ↔ _
      simp
    | succ k =>
      rw [rowM_one hp hk 0, rowF_one, Nat.add_sub_cancel, Bool.and_eq_true, hf k (by omega)]
      simp
/-- The first k marks. -/
def upTo (F : Nat → Bool) (k p : Nat) : Bool := if p < k then F p else false
theorem upTo_in {F : Nat → Bool} {k p : Nat} (h : p < k) : upTo F k p = F p := by unfold upTo; rw [if_pos h]
theorem upTo_succ (F : Nat → Bool) (k p : Nat) : upTo F (k + 1) p = if p = k then F k else upTo F k p := by
  unfold upTo
  by_cases h : p = k
  · subst h; rw [if_pos (by omega), if_pos rfl]
  · rw [if_neg h]
    by_cases h2 : p < k
    · rw [if_pos h2, if_pos (by omega)]
    · rw [if_neg h2, if_neg (by omega)]
/-- One sign in memory. -/
theorem AtomsC.at {S : Nat → Prop} {w : World} {a : Option Addr} {c : Nat} {l : List (Option S4)} (h : AtomsC S w (.slice a l.length c) l) (hn : 0 < l.length) :
    ∃ g o, a = some ⟨g, o, none⟩ ∧ S g ∧ l.length ≤ c ∧ c ≤ 9223372036854775807 ∧ ∀ i, i < l.length → w.cell? ⟨g, o + i * n257, none⟩ = some (.bool (l.getD i none).isNone) ∧ ∀ c, c < 256 → w.cell? ⟨g, o + i * n257 + (1 + c), none⟩ = some (.bool (takesF (l.getD i none) c)) := by
  obtain ⟨g, o, h1, h2, h3, h4, h5⟩ := RowsC.at h hn
  refine ⟨g, o, h1, h2, h3, h4, fun i hi => ?_⟩
  have he : l[i]? = some (l.getD i none) := by simp [List.getD, hi]
  obtain ⟨cs, _, h7, h8⟩ := h5 i _ he
  obtain rfl : cs = _ := h7
  refine ⟨?_, fun c hc => ?_⟩
  · have h := h8 0 _ (atom_zero _ _)
    rw [Nat.add_zero] at h
    exact h
  · have h := h8 (c + 1) _ (atom_at _ _ hc)
    rw [← Nat.add_assoc, Nat.add_comm c 1] at h
    exact h
/-- A quiet walk, shut: nothing looks into it by itself. -/
structure StH (P : Program) (ops : Array Oper) (w : World) (Q : Act → Prop) (rest : List Oper) (a : Act) : Prop where
  out : wpStill P ops w Q rest a
theorem sth_skip {P : Program} {ops : Array Oper} {w : World} {Q : Act → Prop} {a : Act} {o : Oper} {rest : List Oper} (hw : Region.wanted o (yielded ops a.tmps) = false) (h : StH P ops w Q rest (a.put o.dst undef)) : StH P ops w Q (o :: rest) a := by
  refine ⟨?_⟩
  unfold wpStill
  rw [if_neg (by rw [hw]; decide)]
  exact h.out
theorem sth_want {P : Program} {ops : Array Oper} {w : World} {Q : Act → Prop} {a : Act} {o : Oper} {rest : List Oper} (hw : Region.wanted o (yielded ops a.tmps) = true) (h : ∀ K : Act → Prop, (∀ a, StH P ops w Q rest a → K a) → o.still P a w K) : StH P ops w Q (o :: rest) a := by
  refine ⟨?_⟩
  unfold wpStill
  rw [if_pos hw]
  exact h _ (fun _ h => h.out)
theorem sth_nil {P : Program} {ops : Array Oper} {w : World} {Q : Act → Prop} {a : Act} (h : Q a) : StH P ops w Q [] a := ⟨wpStill_nil h⟩
theorem region_sth {P : Program} {id : Nat} {Q : Exit → Act → World → Prop} {a : Act} {w : World} {l : List Oper} (n : Nat) (hm : P.follows .mixedOrders = true) (hB : Region.lexTailB .any l.toArray n = true)
    (h : StH P l.toArray (w.drewN 1) (fun a' => wpList P l.toArray Q (l.drop n) a' (w.drewN 1)) (l.take n) a) : (Code.region id l.toArray true).wp P Q a w := wp_region_still_tail n hm hB h.out
set_option maxRecDepth 100000 in
set_option maxHeartbeats 8000000 in
theorem rname_any (piece name : Txt) (w : World) (hp : piece.length ≤ 4000000) (hm : name.length ≤ 4000000) {l : List (Option S4)} (hl : signsGo piece.length piece = some l) :
    Calls Tryd.prog 32 #[.string ⟨piece.toArray⟩, .string ⟨name.toArray⟩] w (TruthP (Mt (itemsS l) name) w) := by
  obtain ⟨i0, hi, hz0, hz1, hz2⟩ := info_parts Tryd.info4b
  have HAT := Lib.hid (atoms_any piece w hp)
  unfold AtomsP at HAT
  rw [hl] at HAT
  clear hl
  go_enter Tryd.func32, Tryd.ntmps32
  go_wp2_with fail
  refine HAT.out.mono ?_
  rintro e w1 ⟨hb1, v, rfl, hv, hll⟩
  obtain ⟨va, vc, rfl⟩ := RowsC.shape hv
  have HV := Lib.hid hv
  have HB1 := Lib.hid hb1
  clear hv hb1 HAT
  go_upto_region 3 with (at_make; refine wpList_make_full _ rfl _ _ 52 rfl w1.heap.size 4 i0 (.bool false) 1 Tryd.underlying52 hi hz0 hz1 .i64 .i64 _ _ (name.length + 1) rfl rfl (by omega) (by omega) (by rw [hz2]; omega) (by unfold maxLen; omega) (by omega) ?_; intro w2 hown hgrow)
  have hlt1 : w1.heap.size < w2.heap.size := (hown.lt _ rfl).2
  have HB2 : Hid (Below w1.heap.size w1 w2) := Lib.hid ((Below.refl _ w1).grown hgrow (Nat.le_refl _) (fun j hj => by cases hj))
  have hbt := Bits.made hown hlt1
  have b0 := hbt.cs 0 (by omega)
  have b1 := hbt.fr 0
  have HBT : Hid (Bits (w2.setCell ⟨w1.heap.size, 0, none⟩ (.bool true)) w1.heap.size (name.length + 1) (fun i => decide (i = 0))) := Lib.hid (hbt.put (by omega) (fun p _ => by by_cases e : p = 0 <;> simp [e]))
  have HB3 : Hid (Below w1.heap.size w1 (w2.setCell ⟨w1.heap.size, 0, none⟩ (.bool true))) := Lib.hid (HB2.out.setCell (Nat.le_refl _) _)
  have HF0 : Hid (∀ k, k ≤ name.length → (decide (k = 0) = true ↔ rowM (itemsS l) name 0 k)) := Lib.hid (fun k hk => by rw [decide_eq_true_eq, rowM_start hk])
  clear hbt hown hgrow hlt1 HB2
  go_upto_region 4 with fail
  clear b0 b1
  generalize w2.setCell ⟨w1.heap.size, 0, none⟩ (.bool true) = w3 at *
  go_wp2_with fail
  go_loopw [7, 8] (fun o i wr => ∃ (rb k : Nat) (f : Nat → Bool), o = .slice (some ⟨rb, 0, none⟩) (name.length + 1) (name.length + 1) ∧ i = .int .i64 (k : Int) ∧ k ≤ l.length ∧ Hid (w1.heap.size ≤ rb) ∧ Hid (Bits wr rb (name.length + 1) f) ∧ Hid (∀ p, p ≤ name.length → (f p = true ↔ rowM (itemsS l) name k p)) ∧ Hid (Below w1.heap.size w1 wr)) (fun _ i _ => l.length - (intOf i).toNat)
  case atStart => exact ⟨_, 0, _, rfl, rfl, Nat.zero_le _, Lib.hid (Nat.le_refl _), HBT, HF0, HB3⟩
  case round =>
    obtain ⟨rb, k, f, rfl, rfl, hk, HRB, HBT2, HF, HB4⟩ := hrel
    by_cases hlt : k < l.length
    · obtain ⟨g, o, rfl, hSg, _, _, hat⟩ := AtomsC.at HV.out (by omega)
      have HAT := Lib.hid (fun (W : World) (hW : Below w1.heap.size w1 W) => (⟨(World.cell?_of_block (w := w1) (hW.block g hSg.2)).trans (hat k hlt).1, fun c hc => (World.cell?_of_block (w := w1) (hW.block g hSg.2)).trans ((hat k hlt).2 c hc)⟩ : W.cell? ⟨g, o + k * n257, none⟩ = some (.bool (l.getD k none).isNone) ∧ ∀ c, c < 256 → W.cell? ⟨g, o + k * n257 + (1 + c), none⟩ = some (.bool (takesF (l.getD k none) c))))
      have HIT := Lib.hid (itemsS_at hlt)
      clear hat hSg
      generalize l.getD k none = x at *
      have HRF := Lib.hid (rowF_iff HIT.out HF.out)
      have HRBL : Hid (rb < wr.heap.size) := Lib.hid HBT2.out.lt
      go_upto_region 8 with (at_make; refine wpList_make_full _ rfl _ _ 52 rfl wr.heap.size 4 i0 (.bool false) 1 Tryd.underlying52 hi hz0 hz1 .i64 .i64 _ _ (name.length + 1) rfl rfl (by omega) (by omega) (by rw [hz2]; omega) (by unfold maxLen; omega) (by omega) ?_; intro w5 hown hgrow)
      have hlt5 : wr.heap.size < w5.heap.size := (hown.lt _ rfl).2
      have hB5 : Below wr.heap.size wr w5 := (Below.refl _ wr).grown hgrow (Nat.le_refl _) (fun j hj => by cases hj)
      obtain ⟨nb, hnb⟩ : ∃ nb, wr.heap.size = nb := ⟨_, rfl⟩
      have HN5 : Hid (Bits w5 nb (name.length + 1) (upTo (rowF f x name) 0)) := Lib.hid (by
        rw [← hnb]
        exact (Bits.made hown hlt5).congr (fun p _ => by unfold upTo; rw [if_neg (by omega)]))
      have HR5 : Hid (Bits w5 rb (name.length + 1) f) := Lib.hid (HBT2.out.kept (hB5.block rb HRBL.out) hB5.size)
      have HW5 : Hid (Below w1.heap.size w1 w5) := Lib.hid (HB4.out.trans (hB5.mono HB4.out.size))
      have HNE : Hid (rb ≠ nb ∧ w1.heap.size ≤ nb) := Lib.hid ⟨by have := HRBL.out; omega, by have := HB4.out.size; omega⟩
      rw [hnb]
      clear hown hgrow hlt5 hB5 hnb HBT2 HB4
      go_wp2_with fail
      go_loopw [10] (fun i wz => ∃ q : Nat, q ≤ name.length + 1 ∧ i = .int .i64 (q : Int) ∧ Hid (Bits wz nb (name.length + 1) (upTo (rowF f x name) q)) ∧ Hid (Bits wz rb (name.length + 1) f) ∧ Hid (Below w1.heap.size w1 wz)) (fun i _ => name.length + 1 - (intOf i).toNat)
      case atStart => exact ⟨0, Nat.zero_le _, rfl, HN5, HR5, HW5⟩
      case round =>
        obtain ⟨q, hq, rfl, HN, HR, HW⟩ := hrel
        by_cases hqn : q ≤ name.length
        · have cst := (HAT.out _ HW.out).1
          have bn := HN.out.cs q (by omega)
          have fn := HN.out.fr q
          have HPUT : Hid (∀ r, rowF f x name q = r → Bits (wr.setCell ⟨nb, q, none⟩ (.bool r)) nb (name.length + 1) (upTo (rowF f x name) (q + 1))) := Lib.hid (fun r hr => HN.out.put (by omega) (fun p _ => by rw [upTo_succ, hr]))
          have HRK := Lib.hid (fun v => (HR.out.kept (w' := wr.setCell ⟨nb, q, none⟩ v) (Below.heap_setCell _ _ _ _ HNE.out.1) (by simp [World.setCell])))
          cases x with
          | none =>
            have bq := HR.out.cs q (by omega)
            generalize hfq : f q = fq at *
            have HFQ := Lib.hid hfq
            clear hfq
            cases fq
            · cases q with
              | zero =>
                go_wp2_with fail
                exact ⟨⟨1, by omega, by go_num, Lib.hid (HPUT.out _ (by show (true && f 0) = false; rw [HFQ.out]; rfl)), Lib.hid (HRK.out _), Lib.hid (HW.out.setCell HNE.out.2 _)⟩, by simp [intOf]⟩
              | succ q =>
                have bp := (HN.out.cs q (by omega))
                rw [upTo_in (Nat.lt_succ_self q)] at bp
                have HP2 : Hid (rowF f none name (q + 1) = rowF f none name q) := Lib.hid (by rw [rowF_many, HFQ.out]; rfl)
                generalize hgq : rowF f none name q = gq at bp
                have HGQ := Lib.hid hgq
                clear hgq
                go_wp2_with fail
                exact ⟨⟨q + 1 + 1, by omega, by go_num, Lib.hid (HPUT.out _ (HP2.out.trans HGQ.out)), Lib.hid (HRK.out _), Lib.hid (HW.out.setCell HNE.out.2 _)⟩, by simp [intOf]; omega⟩
            · go_wp2_with fail
              exact ⟨⟨q + 1, by omega, by go_num, Lib.hid (HPUT.out _ (by cases q with
                | zero => show (true && f 0) = true; rw [HFQ.out]; rfl
                | succ q => rw [rowF_many, HFQ.out]; rfl)), Lib.hid (HRK.out _), Lib.hid (HW.out.setCell HNE.out.2 _)⟩, by simp [intOf]; omega⟩
          | some s =>
            go_upto_region 13 with fail
            have HWD : Hid (∀ v, Below w1.heap.size w1 ((wr.drewN 1).setCell ⟨nb, q, none⟩ v)) := Lib.hid (fun v => (HW.out.trans (drewn _ _ _)).setCell HNE.out.2 _)
            have HRD : Hid (∀ v, Bits ((wr.drewN 1).setCell ⟨nb, q, none⟩ v) rb (name.length + 1) f) := Lib.hid (fun v => (HR.out.kept (w' := (wr.drewN 1).setCell ⟨nb, q, none⟩ v) ((Below.heap_setCell (wr.drewN 1) _ _ _ HNE.out.1).trans rfl) (by simp [World.setCell])))
            have HPD : Hid (∀ r, rowF f (some s) name q = r → Bits ((wr.drewN 1).setCell ⟨nb, q, none⟩ (.bool r)) nb (name.length + 1) (upTo (rowF f (some s) name) (q + 1))) := Lib.hid (fun r hr => (HN.out.kept (w' := wr.drewN 1) rfl (Nat.le_refl _)).put (by omega) (fun p _ => by rw [upTo_succ, hr]))
            have hb0 : (q : Int) < (name.length : Int) + 1 := by omega
            by_cases hq0 : 0 < q
            · have g0 : decide (0 < q) = true := decide_eq_true hq0
              obtain ⟨p, hp⟩ : ∃ p, q = p + 1 := ⟨q - 1, by omega⟩
              have hpi : (q : Int) - 1 = (p : Int) := by omega
              have hpw : IntKind.i64.wrap ((q : Int) - 1) = (p : Int) := by rw [hpi]; exact IntWalk.i64_in _ (by omega)
              have bp := HR.out.cs p (by omega)
              have hb1 : (p : Int) < (name.length : Int) + 1 := by omega
              have hb2 : (p : Int) < (name.length : Int) := by omega
              have hb3 : (k : Int) < (l.length : Int) := by omega
              have HRV : Hid (rowF f (some s) name q = (f p && hasS s (name.getD p 0).toNat)) := Lib.hid (by rw [hp, rowF_one])
              have hI := fun W => str_at W name p (by omega)
              have hcl := (name.getD p 0).toNat_lt
              have ct : wr.cell? ⟨g, o + k * n257 + 1 + (name.getD p 0).toNat, none⟩ = some (.bool (hasS s (name.getD p 0).toNat)) := by
                rw [Nat.add_assoc]; exact (HAT.out _ HW.out).2 _ hcl
              generalize (name.getD p 0).toNat = ch at *
              generalize hasS s ch = ht at *
              generalize f p = fp at *
              have hcb : (ch : Int) < 256 := by omega
              clear hq0 cst hpi hp bn
              cases fp
              · have HRV2 : Hid (rowF f (some s) name q = false) := HRV
                refine region_sth 24 (by kernel_rfl) (by kernel_rfl) ?_
                simp only [List.take_succ_cons, List.take_zero, List.drop_succ_cons, List.drop_zero]
                iterate 12 (refine sth_want (by kernel_rfl) ?_; intro K hK; go_simp; refine hK _ ?_; clear hK K)
                iterate 10 (refine sth_skip (by kernel_rfl) ?_)
                iterate 2 (refine sth_want (by kernel_rfl) ?_; intro K hK; go_simp; refine hK _ ?_; clear hK K)
                refine sth_nil ?_
                change wpList _ _ _ _ _ (wr.drewN 1)
                have b9 : (wr.drewN 1).cell? ⟨nb, q, none⟩ = some (.bool (upTo (rowF f (some s) name) q q)) := HN.out.cs q (by omega)
                have f9 : (wr.drewN 1).frozen? ⟨nb, q, none⟩ = false := HN.out.fr q
                generalize upTo (rowF f (some s) name) q q = oldv at b9
                generalize wr.drewN 1 = wd at *
                go_wp2_with fail
                exact ⟨⟨q + 1, by omega, by go_num, Lib.hid (HPD.out _ HRV2.out), Lib.hid (HRD.out _), Lib.hid (HWD.out _)⟩, by simp [intOf]; omega⟩
              · have HRV2 : Hid (rowF f (some s) name q = ht) := HRV
                refine region_sth 24 (by kernel_rfl) (by kernel_rfl) ?_
                simp only [List.take_succ_cons, List.take_zero, List.drop_succ_cons, List.drop_zero]
                iterate 24 (refine sth_want (by kernel_rfl) ?_; intro K hK; go_simp; refine hK _ ?_; clear hK K)
                refine sth_nil ?_
                change wpList _ _ _ _ _ (wr.drewN 1)
                have b9 : (wr.drewN 1).cell? ⟨nb, q, none⟩ = some (.bool (upTo (rowF f (some s) name) q q)) := HN.out.cs q (by omega)
                have f9 : (wr.drewN 1).frozen? ⟨nb, q, none⟩ = false := HN.out.fr q
                generalize upTo (rowF f (some s) name) q q = oldv at b9
                generalize wr.drewN 1 = wd at *
                go_wp2_with fail
                exact ⟨⟨q + 1, by omega, by go_num, Lib.hid (HPD.out _ HRV2.out), Lib.hid (HRD.out _), Lib.hid (HWD.out _)⟩, by simp [intOf]; omega⟩
            · have g0 : decide (0 < q) = false := decide_eq_false hq0
              have HRV : Hid (rowF f (some s) name q = false) := Lib.hid (by
                obtain rfl : q = 0 := by omega
                rfl)
              clear hq0 cst
              refine region_sth 24 (by kernel_rfl) (by kernel_rfl) ?_
              simp only [List.take_succ_cons, List.take_zero, List.drop_succ_cons, List.drop_zero]
              iterate 5 (refine sth_want (by kernel_rfl) ?_; intro K hK; go_simp; refine hK _ ?_; clear hK K)
              iterate 5 (refine sth_skip (by kernel_rfl) ?_)
              iterate 2 (refine sth_want (by kernel_rfl) ?_; intro K hK; go_simp; refine hK _ ?_; clear hK K)
              iterate 10 (refine sth_skip (by kernel_rfl) ?_)
              iterate 2 (refine sth_want (by kernel_rfl) ?_; intro K hK; go_simp; refine hK _ ?_; clear hK K)
              refine sth_nil ?_
              change wpList _ _ _ _ _ (wr.drewN 1)
              have b9 : (wr.drewN 1).cell? ⟨nb, q, none⟩ = some (.bool (upTo (rowF f (some s) name) q q)) := HN.out.cs q (by omega)
              have f9 : (wr.drewN 1).frozen? ⟨nb, q, none⟩ = false := HN.out.fr q
              generalize upTo (rowF f (some s) name) q q = oldv at b9
              generalize wr.drewN 1 = wd at *
              go_wp2_with fail
              exact ⟨⟨q + 1, by omega, by go_num, Lib.hid (HPD.out _ HRV.out), Lib.hid (HRD.out _), Lib.hid (HWD.out _)⟩, by simp [intOf]; omega⟩
        · have hqe : q = name.length + 1 := by omega
          subst hqe
          have HFN : Hid (∀ p, p ≤ name.length → (upTo (rowF f x name) (name.length + 1) p = true ↔ rowM (itemsS l) name (k + 1) p)) := Lib.hid (fun p hp => by rw [upTo_in (by omega)]; exact HRF.out p hp)
          go_wp2_with fail
          exact ⟨⟨nb, k + 1, _, rfl, by go_num, by omega, Lib.hid HNE.out.2, HN, HFN, HW⟩, by simp [intOf]; omega⟩
    · obtain rfl : k = l.length := by omega
      have bq := HBT2.out.cs name.length (by omega)
      have HFE : Hid (f name.length = true ↔ Mt (itemsS l) name) := Lib.hid (by
        rw [HF.out _ (Nat.le_refl _), ← itemsS_len l]; exact rowM_end)
      have HBE : Hid (Below w.heap.size w wr) := Lib.hid (HB1.out.trans (HB4.out.mono HB1.out.size))
      clear HF HBT2 HB4
      generalize f name.length = r at *
      go_wp2_with fail
      go_ret
      exact ⟨r, rfl, HFE.out, HBE.out⟩
end Go.Proofs.YthigepjddfdbmaaDoor
