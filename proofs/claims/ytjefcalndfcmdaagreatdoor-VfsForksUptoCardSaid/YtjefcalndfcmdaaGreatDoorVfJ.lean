/- A file appended to, read. -/
import Derived.Test.YtjefcalndfcmdaaGreatDoorVfI
namespace Go.Proofs.YtjefcalndfcmdaaGreatDoor
open Go.RowKit Go.Maps
theorem RowM.shapeN {w : World} {B : Nat} {v : Value} {xs : List Value} (h : RowM w B v xs) : ∃ a n c, v = .slice a n c := by
  obtain ⟨a, c, e⟩ := h.shape
  exact ⟨a, _, c, e⟩
set_option maxRecDepth 100000 in
set_option maxHeartbeats 2000000 in
theorem append_any {B : Nat} {X : FsX} {w : World} {bf : Nat} {s : Fs} (h : FsAt B X w bf s) (ok : FsOk s) (hs : s.steps ≤ 16777214) (x : Nm) (hx : x.length ≤ 4194304) (S : Nat → Prop) (vb : Value) (l : List UInt8) (hb : BytesC S w vb l) (hS : ∀ k, S k → k < w.heap.size ∧ X.T k = .no) (hlen : l.length ≤ 1073741824) :
    Calls Tryz.prog 19 #[.pointer (some ⟨bf, 0, none⟩), .string ⟨x.toArray⟩, vb] w (FsP B X w bf (.int .i64 (appendS s x l).2) (appendS s x l).1) := by
  obtain ⟨i0, hi, hz0, hz1, hz2⟩ := info_parts Tryz.info5
  obtain ⟨va, vc, rfl⟩ := hb.shape
  have H := Lib.hid h
  have OK := Lib.hid ok
  have HBS := Lib.hid hb
  have HSS := Lib.hid hS
  obtain ⟨r, hr⟩ : ∃ r, appendS s x l = r := ⟨_, rfl⟩
  have HR := Lib.hid hr
  rw [hr]
  obtain ⟨_, _, c2, _⟩ := h.cells
  have hl := h.mn.look hx
  clear h ok hx hr hb hS
  cases hf : fnd s.now x with
  | none =>
    rw [fndV_none hf] at hl
    have HF := Lib.hid hf
    clear hf
    go_enter Tryz.func19, Tryz.ntmps19
    go_wp2_with fail
    go_ret
    have e : r = (s, 4) := by rw [← HR.out]; unfold appendS; rw [HF.out]
    rw [e]
    exact ⟨rfl, X, H.out, FsUp.refl _ _ _⟩
  | some i =>
    rw [fndV_some hf] at hl
    have HF := Lib.hid hf
    have HR2 : Hid (r = if (s.room : Int) - (used s : Int) < (l.length : Int) then (s, 3) else if s.more = 0 then (s, 190) else (putF (tick s) i ⟨(s.files.getD i noFi).data ++ l, (s.files.getD i noFi).dur⟩, 0)) := Lib.hid (by rw [← HR.out]; unfold appendS; rw [hf])
    clear hf
    have HL : Hid (Live s i) := Lib.hid (OK.out.live (fnd_mem HF.out))
    have hu := H.out.used_le OK.out (by omega)
    have hro := OK.out.room
    have HLF := Lib.hid (left_any H.out OK.out (by omega))
    obtain ⟨u, hue⟩ : ∃ u, used s = u := ⟨_, rfl⟩
    obtain ⟨ro, hroe⟩ : ∃ u, s.room = u := ⟨_, rfl⟩
    have HUE := Lib.hid hue
    rw [hue] at hu HR2 HLF
    rw [hroe] at hro HR2 HLF
    obtain ⟨ll, hll⟩ : ∃ n, l.length = n := ⟨_, rfl⟩
    have HLL := Lib.hid hll
    rw [hll] at HR2 hlen ⊢
    rw [hll] at HBS
    clear hue hroe hll
    by_cases hfull : (ro : Int) - (u : Int) < (ll : Int)
    · have g1 : decide ((ll : Int) > (ro : Int) - (u : Int)) = true := decide_eq_true hfull
      have HFU := Lib.hid hfull
      clear hfull
      go_enter Tryz.func19, Tryz.ntmps19
      go_wp2_with fail
      refine HLF.out.mono ?_
      rintro e w1 ⟨n1, rfl, rfl⟩
      go_wp2_with fail
      go_ret
      rw [HR2.out, if_pos HFU.out]
      exact ⟨rfl, X, H.out.drew n1, FsUp.of X (drewn _ w n1) H.out.baseB⟩
    · have g1 : decide ((ll : Int) > (ro : Int) - (u : Int)) = false := decide_eq_false hfull
      have HFU := Lib.hid hfull
      have hsum : u + ll ≤ ro := by omega
      clear hfull
      go_enter Tryz.func19, Tryz.ntmps19
      go_wp2_with fail
      refine HLF.out.mono ?_
      rintro e w0 ⟨n1, rfl, hw0⟩
      have H0 : Hid (FsAt B X w0 bf s) := Lib.hid (by rw [hw0]; exact H.out.drew n1)
      have B0 : Hid (Below w.heap.size w w0) := Lib.hid (by rw [hw0]; exact drewn _ w n1)
      have E0 : Hid (w0.heap = w.heap) := Lib.hid (by rw [hw0]; rfl)
      clear hw0 c2 hl
      go_wp2_with fail
      by_cases hm : s.more = 0
      · refine (step_cut H0.out hm).mono ?_
        rintro e w1 ⟨rfl, rfl⟩
        have HM := Lib.hid hm
        clear hm
        go_wp2_with fail
        go_ret
        rw [HR2.out, if_neg (by have := HFU.out; omega), if_pos HM.out]
        exact ⟨rfl, X, H0.out, FsUp.of X B0.out H.out.baseB⟩
      · refine (step_ok H0.out OK.out (by omega) hm).mono ?_
        rintro e w1 ⟨rfl, hh1, al1⟩
        have HM := Lib.hid hm
        have H1 := Lib.hid hh1
        have A1 := Lib.hid al1
        clear hm hh1 al1
        have HFI := Lib.hid (H1.out.fil i HL.out)
        have hfl : ∀ q, S q → q ≠ bf := fun q hq e => by have := (HSS.out q hq).2; rw [e, H.out.tf] at this; cases this
        have HSRC : Hid (BytesC S w1 (.slice va ll vc) l) := Lib.hid (HBS.out.kept (fun q hq => ⟨hq, by rw [A1.out.block q (by rw [E0.out]; exact (HSS.out q hq).1) (hfl q hq), E0.out]⟩))
        have SRC : Hid (Src Tryz.prog 1 35 (.slice va ll vc) ll (bv l) w1) := Lib.hid (by have h := HSRC.out.srcC; rw [HLL.out] at h; exact h)
        have ROW := Lib.hid HFI.out.row
        obtain ⟨fa, fc, hdv⟩ := HFI.out.shape
        have k0 := HFI.out.cells.1
        have HML : Hid ((s.files.getD i noFi).data.length ≤ 4194304) := Lib.hid (OK.out.dat _ (getD_mem (OK.out.nowOk.lt _ (fnd_mem HF.out)))).2
        obtain ⟨m, hmm⟩ : ∃ m, (s.files.getD i noFi).data.length = m := ⟨_, rfl⟩
        have hmm2 : ((tick s).files.getD i noFi).data.length = m := hmm
        rw [hmm2] at hdv
        rw [hdv] at k0 ROW
        have HDV := Lib.hid hdv
        have HMM := Lib.hid hmm
        have hml : m ≤ 4194304 := by rw [← hmm]; exact HML.out
        have hbl : (bv ((tick s).files.getD i noFi).data).length = m := by rw [bv_len]; exact hmm
        have HBL := Lib.hid hbl
        have hB0 : B ≤ w1.heap.size := by have := H.out.baseB; have := B0.out.size; have := A1.out.size; omega
        have HB0 := Lib.hid hB0
        clear hdv hmm hmm2 hfl hbl hB0
        go_wp2_with (at_builtin; refine wpList_markAny _ rfl _ _ 35 35 rfl B 5 i0 (.int .u8 0) 1 Tryz.underlying35 hi hz0 hz1 hz2 rfl _ _ rfl ROW.out _ _ _ rfl SRC.out (by rw [HBL.out]; unfold maxLen; omega) (by rw [HBL.out]; omega) HB0.out ?_; intro v2 w2 row2 gr2; obtain ⟨xa, xn, xc, hv2⟩ := row2.shapeN; subst hv2; have R2 := Lib.hid row2; have G2 := Lib.hid gr2; clear row2 gr2; have hz12 := G2.out.size; have q0 : w2.heap[X.fb i]? = _ := (G2.out.gb.block (X.fb i) (H1.out.dom _ (by rw [HFI.out.tb]; exact fun c => by cases c)).2 (fun e => by rw [← HDV.out] at e; have h1 := HFI.out.tv _ e.symm; rw [HFI.out.tb] at h1; cases h1)).trans HFI.out.blk; have q1 : w2.heap[bf]? = _ := (G2.out.gb.block bf H1.out.bfB.2 (fun e => by rw [← HDV.out] at e; have h1 := HFI.out.tv _ e.symm; rw [H1.out.tf] at h1; cases h1)).trans H1.out.blk; have Q0 := Lib.hid q0; have Q1 := Lib.hid q1; have y0 : w2.cell? ⟨X.fb i, 0, none⟩ = some (X.dv i) := (cell_of_row _ _ _ _ _ _ q0).trans rfl; have y1 : w2.cell? ⟨bf, 1, none⟩ = some (.int .i64 (used (tick s) : Int)) := (cell_of_row _ _ _ _ _ _ q1).trans rfl; have yf0 : w2.frozen? ⟨X.fb i, 0, none⟩ = false := frozen_box q0 0; have yf1 : w2.frozen? ⟨bf, 1, none⟩ = false := frozen_box q1 1; have yu : used (tick s) = u := HUE.out; have hne : X.fb i ≠ bf := (fun e => by have := HFI.out.tb; rw [e, H1.out.tf] at this; cases this); have HNE := Lib.hid hne; rw [yu] at y1; clear q0 q1 yu)
        go_ret
        rw [HR2.out, if_neg (by have := HFU.out; omega), if_neg HM.out]
        obtain ⟨v2, hv2⟩ : ∃ v, Value.slice xa xn xc = v := ⟨_, rfl⟩
        rw [hv2] at R2 G2 ⊢
        clear hv2
        have hset : ∀ q, q ≠ bf → q ≠ X.fb i → ((w2.setCell ⟨X.fb i, 0, none⟩ v2).setCell ⟨bf, 1, none⟩ (.int .i64 ((u : Int) + (ll : Int)))).heap[q]? = w2.heap[q]? := fun q h1 h2 => by
          rw [Below.heap_setCell _ _ _ q h1, Below.heap_setCell _ _ _ q h2]
        have hne' := HNE.out
        have hsz : ((w2.setCell ⟨X.fb i, 0, none⟩ v2).setCell ⟨bf, 1, none⟩ (.int .i64 ((u : Int) + (ll : Int)))).heap.size = w2.heap.size := by simp
        have hbF : ((w2.setCell ⟨X.fb i, 0, none⟩ v2).setCell ⟨bf, 1, none⟩ (.int .i64 ((u : Int) + (ll : Int)))).heap[bf]? = some (.cells (fsRow X (putF (tick s) i ⟨(s.files.getD i noFi).data ++ l, (s.files.getD i noFi).dur⟩)) 62 (0, 0)) := by
          have h1 := used_put OK.out.tick HF.out ⟨(s.files.getD i noFi).data ++ l, (s.files.getD i noFi).dur⟩
          have h2 : used (putF (tick s) i ⟨(s.files.getD i noFi).data ++ l, (s.files.getD i noFi).dur⟩) + (s.files.getD i noFi).data.length = used s + ((s.files.getD i noFi).data ++ l).length := h1
          rw [List.length_append, HUE.out, HLL.out] at h2
          have e : (used (putF (tick s) i ⟨(s.files.getD i noFi).data ++ l, (s.files.getD i noFi).dur⟩) : Int) = (u : Int) + (ll : Int) := by omega
          rw [cells_set ((Below.heap_setCell w2 _ v2 bf (fun e => hne' e.symm)).trans Q1.out) _]
          unfold fsRow
          rw [e]; rfl
        have hbf2 : ((w2.setCell ⟨X.fb i, 0, none⟩ v2).setCell ⟨bf, 1, none⟩ (.int .i64 ((u : Int) + (ll : Int)))).heap[X.fb i]? = some (.cells #[v2, .int .i64 ((s.files.getD i noFi).dur : Int)] 78 (0, 0)) := by
          rw [Below.heap_setCell _ _ _ _ hne', cells_set Q0.out v2]; rfl
        have hbel : Below B w1 ((w2.setCell ⟨X.fb i, 0, none⟩ v2).setCell ⟨bf, 1, none⟩ (.int .i64 ((u : Int) + (ll : Int)))) := by
          have hBf := (H1.out.dom (X.fb i) (by rw [HFI.out.tb]; exact fun c => by cases c)).1
          refine ((((Below.refl B w1).grown G2.out.gb HB0.out (fun q hq => ?_)).setCell hBf _).setCell H1.out.bfB.1 _)
          rw [← HDV.out] at hq
          exact (H1.out.dom q (by rw [HFI.out.tv q hq]; exact fun c => by cases c)).1
        generalize (w2.setCell ⟨X.fb i, 0, none⟩ v2).setCell ⟨bf, 1, none⟩ (.int .i64 ((u : Int) + (ll : Int))) = w4 at *
        have hzw := B0.out.size
        have hz01 := A1.out.size
        have hh0 := HB0.out
        have hown : ∀ q, v2.ownBlock = some q → (X.dv i).ownBlock = some q ∨ (w1.heap.size ≤ q ∧ q < w4.heap.size ∧ B ≤ q) := fun q hq => by
          rcases G2.out.own q hq with h1 | h1
          · left; rw [HDV.out]; exact h1
          · right
            have hq2 : q < w2.heap.size := by
              rcases R2.out with ⟨h3, h4⟩ | ⟨g, cap, h4, _, h5, _⟩
              · rw [h4] at hq; cases hq
              · rw [h4] at hq
                have : q = g := by simpa [Value.ownBlock] using hq.symm
                omega
            exact ⟨h1, by omega, by omega⟩
        have hown2 : ∀ q, v2.ownBlock = some q → q ≠ bf ∧ q ≠ X.fb i := fun q hq => by
          rcases hown q hq with h1 | h1
          · have h2 := HFI.out.tv q h1
            exact ⟨fun e => (by rw [e, H1.out.tf] at h2; cases h2), fun e => (by rw [e, HFI.out.tb] at h2; cases h2)⟩
          · have h2 := H1.out.bfB.2
            have h3 := (H1.out.dom (X.fb i) (by rw [HFI.out.tb]; exact fun c => by cases c)).2
            exact ⟨by omega, by omega⟩
        have hkk : ∀ q, q < w1.heap.size → q ≠ bf → q ≠ X.fb i → (X.dv i).ownBlock ≠ some q → w4.heap[q]? = w1.heap[q]? := fun q hq h1 h2 h3 => by
          rw [hset q h1 h2]
          exact G2.out.gb.block q hq (fun e => h3 (by rw [HDV.out]; exact e.symm))
        obtain ⟨X', q1, _, q3⟩ := FsAt.putFile (wF := w4) (f := ⟨(s.files.getD i noFi).data ++ l, (s.files.getD i noFi).dur⟩) (v' := v2) H1.out HL.out (OK.out.live_lt HL.out) (by omega)
          (fun q hq h1 h2 h3 => hkk q hq (fun e => h1 (by rw [e]; exact H1.out.tf)) (fun e => h2 (by rw [e]; exact HFI.out.tb)) (fun e => h3 (HFI.out.tv q e)))
          hbF hbf2
          (by
            have h1 := R2.out
            rw [← bv_append] at h1
            exact h1.kept (by omega) (fun q e => hset q (hown2 q e).1 (hown2 q e).2))
          hown
        refine ⟨rfl, X', q1, ⟨?_, fun q hq ht => ?_, fun q hq => ?_⟩⟩
        · exact ((B0.out.mono H.out.baseB).trans (A1.out.below H.out.bfB.1 (by have := H.out.baseB; omega))).trans hbel
        · have h1 : q ≠ bf := fun e => by rw [e, H.out.tf] at ht; cases ht
          rw [hkk q (by omega) h1 (fun e => by rw [e, HFI.out.tb] at ht; cases ht) (fun e => by rw [HFI.out.tv q e] at ht; cases ht), A1.out.block q (by omega) h1, E0.out]
        · rcases q3 q hq with h1 | h1
          · exact Or.inl h1
          · right; omega
def ReadP (w : World) (l : List UInt8) (c : Int) (e : Ending) (w' : World) : Prop := ∃ v, e = .returned (.tuple #[v, .int .i64 c]) ∧ Own w' w.heap.size v l ∧ Below w.heap.size w w'
def readS (s : Fs) (x : Nm) : List UInt8 × Int :=
  match fnd s.now x with
  | none => ([], 4)
  | some i => ((s.files.getD i noFi).data, 0)
theorem read_any {B : Nat} {X : FsX} {w : World} {bf : Nat} {s : Fs} (h : FsAt B X w bf s) (ok : FsOk s) (x : Nm) (hx : x.length ≤ 4194304) :
    Calls Tryz.prog 21 #[.pointer (some ⟨bf, 0, none⟩), .string ⟨x.toArray⟩] w (ReadP w (readS s x).1 (readS s x).2) := by
  obtain ⟨_, _, c2, _⟩ := h.cells
  have hl := h.mn.look hx
  unfold readS
  cases hf : fnd s.now x with
  | none =>
    rw [fndV_none hf] at hl
    clear h ok hf hx
    go_enter Tryz.func21, Tryz.ntmps21
    go_wp2_with fail
    go_ret2
    exact ⟨_, rfl, own_nil _ _, Below.refl _ _⟩
  | some i =>
    rw [fndV_some hf] at hl
    show Calls _ _ _ _ (ReadP w (s.files.getD i noFi).data 0)
    have hfi := h.fil i (ok.live (fnd_mem hf))
    have hml : (s.files.getD i noFi).data.length ≤ 4194304 := (ok.dat _ (getD_mem (ok.nowOk.lt _ (fnd_mem hf)))).2
    have HCL := Lib.hid (clone_any _ (X.dv i) (s.files.getD i noFi).data w hml (fun k hk => hk.2) hfi.row.bytes)
    have k0 := hfi.cells.1
    clear h ok hf hx hfi hml
    go_enter Tryz.func21, Tryz.ntmps21
    go_wp2_with fail
    refine HCL.out.mono ?_
    rintro e w1 ⟨v1, rfl, ho, hb⟩
    have HO := Lib.hid ho
    have HB := Lib.hid hb
    clear ho hb HCL
    go_wp2_with fail
    go_ret2
    exact ⟨_, rfl, HO.out, HB.out⟩
end Go.Proofs.YtjefcalndfcmdaaGreatDoor
