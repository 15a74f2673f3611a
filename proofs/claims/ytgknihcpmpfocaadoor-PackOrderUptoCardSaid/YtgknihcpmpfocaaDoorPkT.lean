/- The walk of Open. -/
import Derived.Test.YtgknihcpmpfocaaDoorPkS
namespace Go.Proofs.YtgknihcpmpfocaaDoor
open Go.RowKit Go.Maps
attribute [local simp high] id_size id_zero

/-- What a scan has told a pack so far. -/
def NoteJ (B bp bf : Nat) (x : Nm) (done : List (List UInt8)) (T : Nat → Prop) (W : World) : Prop :=
  ∃ bm n D vi, PackAt B W bp bf bm n D vi x (idsOf done) (placeOf done) ∧ n ≤ done.length ∧ (∀ k, PkT bp bm vi k → T k) ∧ ∀ k, T k → B ≤ k ∧ k < W.heap.size
theorem Far.wide {P Q : Nat → Prop} {w w' : World} (h : Far P w w') (hPQ : ∀ k, P k → Q k) : Far Q w w' := ⟨h.os, h.tape, h.output, h.size, fun k hk hn => h.block k hk (fun hp => hn (hPQ k hp))⟩
theorem tell_note (B bp bf : Nat) (x : Nm) (b : List UInt8) (hbl : b.length ≤ 1073741824) (done : List (List UInt8)) (T : Nat → Prop) (W : World) (rec : List UInt8) (todo : List (List UInt8)) (hdt : scanL b = done ++ rec :: todo) (hJ : NoteJ B bp bf x done T W) (hB : B ≤ W.heap.size) :
    Calls Tryd.prog 36 (#[.pointer (some ⟨bp, 0, none⟩)] ++ atV rec done ++ #[]) W fun e W' => e = .returned (.tuple #[]) ∧ ∃ T', (∀ k, T' k → (T k ∨ W.heap.size ≤ k) ∧ k < W'.heap.size) ∧ NoteJ B bp bf x (done ++ [rec]) T' W' ∧ Far T W W' := by
  obtain ⟨bm, n, D, vi, h, hn, hT, hTl⟩ := hJ
  have hl := (scan_rest hdt).2
  have hdl := framesL_ge done
  have hids := idsOf_len done
  have hv : (#[.pointer (some ⟨bp, 0, none⟩)] ++ atV rec done ++ #[] : Array Value) = #[.pointer (some ⟨bp, 0, none⟩), .agg (bv (sumN rec)).toArray, .agg #[.int .i64 (((framesL done).length + 12 : Nat) : Int), .int .i64 (((framesL done).length + 12 + rec.length : Nat) : Int)]] := rfl
  rw [hv]
  refine (note_any h hB (sumN rec) (sumN_len rec) ((framesL done).length + 12, (framesL done).length + 12 + rec.length) (by omega) (by omega)).mono ?_
  rintro e W' ⟨rfl, D', vi', h', ho, hf⟩
  rw [← idsOf_snoc, ← placeOf_snoc] at h'
  refine ⟨rfl, fun k => T k ∨ vi'.ownBlock = some k, fun k hk => ?_, ⟨bm, n + 1, D', vi', h', by rw [List.length_append]; exact Nat.succ_le_succ hn, fun k hk => ?_, fun k hk => ?_⟩, hf.wide hT⟩
  · rcases hk with hk | hk
    · exact ⟨Or.inl hk, Nat.lt_of_lt_of_le (hTl k hk).2 hf.size⟩
    · refine ⟨?_, (h'.lt k (Or.inr (Or.inr hk))).2⟩
      rcases ho k hk with h1 | h1
      · exact Or.inl (hT k (Or.inr (Or.inr h1)))
      · exact Or.inr h1
  · rcases hk with rfl | rfl | hk
    · exact Or.inl (hT _ (Or.inl rfl))
    · exact Or.inl (hT _ (Or.inr (Or.inl rfl)))
    · exact Or.inr hk
  · rcases hk with hk | hk
    · exact ⟨(hTl k hk).1, Nat.lt_of_lt_of_le (hTl k hk).2 hf.size⟩
    · exact h'.lt k (Or.inr (Or.inr hk))
theorem NoteJ.kept {B bp bf : Nat} {x : Nm} (done : List (List UInt8)) (T : Nat → Prop) (W W' : World) (h : NoteJ B bp bf x done T W) (hk : ∀ k, T k → W'.heap[k]? = W.heap[k]?) (hs : W.heap.size ≤ W'.heap.size) : NoteJ B bp bf x done T W' := by
  obtain ⟨bm, n, D, vi, h, hn, hT, hTl⟩ := h
  exact ⟨bm, n, D, vi, h.kept (fun k hkt => hk k (hT k hkt)), hn, hT, fun k hkt => ⟨(hTl k hkt).1, Nat.lt_of_lt_of_le (hTl k hkt).2 hs⟩⟩
def openR (s : Fs) (x : Nm) : Fs × Option (List (List UInt8)) × Int :=
  if (readS s x).2 = 0 then
    if endL (readS s x).1 < (readS s x).1.length then
      if (cutS s x (endL (readS s x).1 : Int)).2 = 0 then ((cutS s x (endL (readS s x).1 : Int)).1, some (scanL (readS s x).1), 0) else (s, none, (cutS s x (endL (readS s x).1 : Int)).2)
    else (s, some (scanL (readS s x).1), 0)
  else (s, none, (readS s x).2)
def OpenP (w0 : World) (F : Nat → Prop) (w : World) (bf : Nat) (x : Nm) (s' : Fs) (o : Option (List (List UInt8))) (c : Int) (e : Ending) (w' : World) : Prop :=
  w.heap.size ≤ w'.heap.size ∧ (∀ k, F k → w'.heap[k]? = w.heap[k]?) ∧ match o with
    | none => e = .returned (.tuple #[.pointer none, .int .i64 c]) ∧ FsG w0 F w' bf s'
    | some all => ∃ (bp : Nat) (T : Nat → Prop), e = .returned (.tuple #[.pointer (some ⟨bp, 0, none⟩), .int .i64 0]) ∧ PkG w0 (fun k => F k ∨ T k) T w' bp bf s' x all ∧ ∀ k, T k → w.heap.size ≤ k
set_option maxRecDepth 100000 in
set_option maxHeartbeats 4000000 in
theorem popen_any {w0 w : World} {F : Nat → Prop} {bf : Nat} {s : Fs} (g : FsG w0 F w bf s) (hE : Env w) (hs : s.steps ≤ 16777214) (x : Nm) (hx : x.length ≤ 4194304) :
    Calls Tryd.prog 18 #[.pointer (some ⟨bf, 0, none⟩), .string ⟨x.toArray⟩] w (OpenP w0 F w bf x (openR s x).1 (openR s x).2.1 (openR s x).2.2) := by
  generalize hR : openR s x = R
  obtain ⟨s', o, c⟩ := R
  dsimp only
  have HR := Lib.hid hR
  have HC := g_read g x hx
  generalize hrd : readS s x = rd at HC
  obtain ⟨b, cr⟩ := rd
  dsimp only at HC
  have HRD := Lib.hid hrd
  have HCC := Lib.hid HC
  have G := Lib.hid g
  have HE := Lib.hid hE
  have HS := Lib.hid hs
  have HX := Lib.hid hx
  clear hR HC hrd g hE hs hx
  go_enter Tryd.func18, Tryd.ntmps18
  go_wp2_with fail
  refine HCC.out.mono ?_
  rintro e w1 ⟨v1, rfl, hown1, hb1⟩
  obtain ⟨a, ca, rfl⟩ := own_slice hown1
  have hz1 := hb1.size
  have B1 := Lib.hid hb1
  have O1 := Lib.hid hown1
  clear hown1 hb1 HCC
  by_cases hcr : cr = 0
  · subst hcr
    have HLB := Lib.hid (readS_len G.out.ok HRD.out)
    obtain ⟨m, hm⟩ : ∃ m, b.length = m := ⟨_, rfl⟩
    have HM := Lib.hid hm
    rw [hm]
    have HBW : Hid (w0.heap.size ≤ w.heap.size) := Lib.hid G.out.below.size
    have HEM := Lib.hid (empty_any w1 bf x w.heap.size hz1)
    clear hm
    go_wp2_with fail
    refine HEM.out.mono ?_
    rintro e w2 ⟨rfl, hz2, hp2, hb2⟩
    have B2 := Lib.hid hb2
    have P2 := Lib.hid hp2
    obtain ⟨bp, hbp⟩ : ∃ bp, bp = w1.heap.size + 1 := ⟨_, rfl⟩
    rw [← hbp] at P2
    rw [← hbp]
    have HBP := Lib.hid hbp
    have HJ0 : NoteJ w.heap.size bp bf x [] (fun k => k = bp ∨ k = w1.heap.size) w2 := by
      refine ⟨_, _, _, _, P2.out, Nat.le_refl _, fun k hk => ?_, fun k hk => ?_⟩
      · rcases hk with rfl | rfl | hk
        · exact Or.inl rfl
        · exact Or.inr rfl
        · simp [Value.ownBlock] at hk
      · rcases hk with rfl | rfl <;> omega
    have HSC := Lib.hid (scan_any (fun k => w.heap.size ≤ k ∧ k < w1.heap.size) b (.slice a b.length ca) w2 ((own_c O1.out).kept (fun k hk => ⟨hk, hb2.block k hk.2⟩)) (fun k hk => by omega) ((HE.out.on B1.out).on hb2) (by have := HLB.out; omega) 36 #[.pointer (some ⟨bp, 0, none⟩)] #[] (NoteJ w.heap.size bp bf x) (fun k => k = bp ∨ k = w1.heap.size)
      (fun k hk => by have := HE.out.big; rcases hk with rfl | rfl <;> refine ⟨by omega, by omega, by omega⟩) (by intro args w; rfl) NoteJ.kept
      HJ0
      (fun done T W rec todo hdt hJ _ _ _ _ => tell_note w.heap.size bp bf x b (by have := HLB.out; omega) done T W rec todo hdt hJ (by obtain ⟨_, _, _, _, h1, _⟩ := hJ; have := (h1.lt bp (Or.inl rfl)); omega)))
    rw [HM.out] at HSC
    clear hp2 hb2 hbp HEM HJ0
    go_wp2_with fail
    refine HSC.out.mono ?_
    rintro e w3 ⟨rfl, T', hT', hJ3, hf3⟩
    have hz3 := hf3.size
    have F3 := Lib.hid hf3
    have J3 := Lib.hid hJ3
    have HT3 := Lib.hid hT'
    have G3 : Hid (FsG w0 (fun k => F k ∨ (w.heap.size ≤ k ∧ k < w3.heap.size)) w3 bf s) := Lib.hid (by
      have h2 := G.out.more (F' := fun k => F k ∨ (w.heap.size ≤ k ∧ k < w2.heap.size)) (B1.out.trans (B2.out.mono (by omega))) (fun k hk => hk)
      have := HBP.out
      have := HBW.out
      refine h2.far hf3 (fun k hk => ?_) (fun k hk => ?_)
      · rcases hk with rfl | rfl <;> exact ⟨Or.inr ⟨by omega, by omega⟩, by omega⟩
      · rcases hk with hk | hk
        · exact Or.inl (Or.inl hk)
        · by_cases hlt : k < w2.heap.size
          · exact Or.inl (Or.inr ⟨hk.1, hlt⟩)
          · exact Or.inr ⟨by omega, hk.2⟩)
    have K3 : Hid (∀ k, k < w.heap.size → w3.heap[k]? = w.heap[k]?) := Lib.hid (fun k hk => by
      have := HBP.out
      exact (hf3.block k (by omega) (fun h => by rcases h with rfl | rfl <;> omega)).trans ((B2.out.block k (by omega)).trans (B1.out.block k hk)))
    have HFL : Hid (∀ k, F k → k < w.heap.size) := Lib.hid G.out.lt
    have HSP := Lib.hid (scan_split b)
    obtain ⟨en, hen⟩ : ∃ en, endL b = en := ⟨_, rfl⟩
    have HEN := Lib.hid hen
    have HLE := Lib.hid (endL_le b)
    rw [hen]
    clear hf3 hJ3 hT' hen HSC
    by_cases hcut : en < m
    · have hg : decide ((en : Int) < (m : Int)) = true := decide_eq_true (by omega)
      have hg2 : decide (en < m) = true := decide_eq_true hcut
      have HCU := g_cut G3.out HS.out x HX.out (en : Int)
      have HCR := Lib.hid (cutS_read G.out.ok HRD.out (n := en) (by have := HM.out; omega))
      obtain ⟨cc, hcc⟩ : ∃ cc, (cutS s x (en : Int)).2 = cc := ⟨_, rfl⟩
      obtain ⟨sc, hsc⟩ : ∃ sc, (cutS s x (en : Int)).1 = sc := ⟨_, rfl⟩
      have HCC := Lib.hid hcc
      have HSC := Lib.hid hsc
      rw [hcc, hsc] at HCU HCR
      have HCV := Lib.hid HCU
      have hRR : (if cc = 0 then (sc, some (scanL b), (0 : Int)) else (s, none, cc)) = (s', o, c) := by
        have h := HR.out
        unfold openR at h
        rw [HRD.out] at h
        dsimp only at h
        rw [if_pos rfl, HEN.out, HM.out, if_pos hcut, HCC.out, HSC.out] at h
        exact h
      have HRR := Lib.hid hRR
      clear HCU hcc hsc hRR hcut
      go_wp2_with fail
      refine HCV.out.mono ?_
      rintro e w4 ⟨rfl, h4, hz4, hk4⟩
      have G4 := Lib.hid h4
      have K4 := Lib.hid hk4
      clear h4 hk4 HCV
      by_cases hz : cc = 0
      · subst hz
        go_wp2_with fail
        go_ret2
        have hR := HRR.out
        simp only [if_true, Prod.mk.injEq] at hR
        obtain ⟨rfl, rfl, rfl⟩ := hR
        have hrd : readS sc x = (b.take en, 0) := by
          rcases HCR.out with ⟨_, h1, _⟩ | ⟨h1, _⟩
          · exact h1
          · exact absurd rfl h1
        obtain ⟨bm, n, D, vi, q1, q2, q3, q4⟩ := J3.out
        have q5 := q1.lt
        refine ⟨by omega, fun k hk => (K4.out k (Or.inl hk)).trans (K3.out k (HFL.out k hk)), bp, T', rfl, ⟨?_, ⟨bm, n, D, vi, ?_, q2, q3⟩, fun k hk => ⟨Or.inr hk, by have := HBW.out; have := (q4 k hk).1; omega⟩, ?_, HX.out⟩, fun k hk => (q4 k hk).1⟩
        · obtain ⟨X, r1, r2⟩ := G4.out.ex
          refine ⟨⟨X, r1, fun k hk => r2 k ?_⟩, G4.out.below, G4.out.ok⟩
          rcases hk with hk | hk
          · exact Or.inl hk
          · exact Or.inr (q4 k hk)
        · have h5 := q1.kept (w' := w4) (fun k hk => K4.out k (Or.inr (q5 k hk)))
          exact ⟨h5.row, own_base h5.ids HBW.out, h5.map, h5.ne, h5.own, ⟨Nat.le_trans HBW.out h5.big.1, Nat.le_trans HBW.out h5.big.2⟩⟩
        · rw [hrd]
          have h6 := HSP.out.2.1
          congr 1
          conv => lhs; rw [← h6]
          exact List.take_left' HEN.out
      · have hcb : (cc == 0) = false := by rw [beq_eq_false_iff_ne]; exact hz
        have HZ := Lib.hid hz
        clear hz
        go_wp2_with fail
        go_ret2
        have hR := HRR.out
        rw [if_neg HZ.out] at hR
        simp only [Prod.mk.injEq] at hR
        obtain ⟨rfl, rfl, rfl⟩ := hR
        have hsc : sc = s := by
          rcases HCR.out with ⟨h1, _⟩ | ⟨_, h1⟩
          · exact absurd h1 HZ.out
          · exact h1
        have h4 := G4.out
        rw [hsc] at h4
        refine ⟨by omega, fun k hk => (K4.out k (Or.inl hk)).trans (K3.out k (HFL.out k hk)), rfl, ?_⟩
        obtain ⟨X, r1, r2⟩ := h4.ex
        exact ⟨⟨X, r1, fun k hk => r2 k (Or.inl hk)⟩, h4.below, h4.ok⟩
    · have hg : decide ((en : Int) < (m : Int)) = false := decide_eq_false (by omega)
      have hg2 : decide (en < m) = false := decide_eq_false hcut
      have hRR : (s, some (scanL b), (0 : Int)) = (s', o, c) := by
        have h := HR.out
        unfold openR at h
        rw [HRD.out] at h
        dsimp only at h
        rw [if_pos rfl, HEN.out, HM.out, if_neg hcut] at h
        exact h
      have HRR := Lib.hid hRR
      have HNC := Lib.hid hcut
      clear hRR hcut
      go_wp2_with fail
      go_ret2
      have hR := HRR.out
      simp only [Prod.mk.injEq] at hR
      obtain ⟨rfl, rfl, rfl⟩ := hR
      obtain ⟨bm, n, D, vi, q1, q2, q3, q4⟩ := J3.out
      refine ⟨by omega, fun k hk => K3.out k (HFL.out k hk), bp, T', rfl, ⟨?_, ⟨bm, n, D, vi, ?_, q2, q3⟩, fun k hk => ⟨Or.inr hk, by have := HBW.out; have := (q4 k hk).1; omega⟩, ?_, HX.out⟩, fun k hk => (q4 k hk).1⟩
      · obtain ⟨X, r1, r2⟩ := G3.out.ex
        refine ⟨⟨X, r1, fun k hk => r2 k ?_⟩, G3.out.below, G3.out.ok⟩
        rcases hk with hk | hk
        · exact Or.inl hk
        · exact Or.inr (q4 k hk)
      · exact ⟨q1.row, own_base q1.ids HBW.out, q1.map, q1.ne, q1.own, ⟨Nat.le_trans HBW.out q1.big.1, Nat.le_trans HBW.out q1.big.2⟩⟩
      · rw [HRD.out]
        have h6 := HSP.out.2.1
        have h7 := HLE.out
        have h8 := HEN.out
        have h9 := HM.out
        have h10 := HNC.out
        congr 1
        conv => lhs; rw [← h6]
        rw [List.drop_of_length_le (by omega), List.append_nil]
  · have hcb : (cr == 0) = false := by rw [beq_eq_false_iff_ne]; exact hcr
    have HZ := Lib.hid hcr
    have hRR : (s, (none : Option (List (List UInt8))), cr) = (s', o, c) := by
      have h := HR.out
      unfold openR at h
      rw [HRD.out] at h
      dsimp only at h
      rw [if_neg hcr] at h
      exact h
    have HRR := Lib.hid hRR
    clear hRR hcr
    go_wp2_with fail
    go_ret2
    have hR := HRR.out
    simp only [Prod.mk.injEq] at hR
    obtain ⟨rfl, rfl, rfl⟩ := hR
    exact ⟨hz1, fun k hk => B1.out.block k (G.out.lt k hk), rfl, G.out.beside B1.out⟩
end Go.Proofs.YtgknihcpmpfocaaDoor
