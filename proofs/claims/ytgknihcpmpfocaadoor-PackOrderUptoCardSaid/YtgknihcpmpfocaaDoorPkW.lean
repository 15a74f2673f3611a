/- The law PackScans. -/
import Derived.Test.YtgknihcpmpfocaaDoorPkU
import Derived.Test.YtgknihcpmpfocaaDoorPkV
import Derived.Test.YtgknihcpmpfocaaDoorPkH
namespace Go.Proofs.YtgknihcpmpfocaaDoor
open Go.RowKit Go.Lib
attribute [local simp high] id_size id_zero

theorem head_run {S : Nat → Prop} {w : World} {aa : Addr} {ca : Nat} {b : List UInt8} (h : BytesC S w (.slice (some aa) b.length ca) b) (j : Nat) (hj : j ≤ b.length) :
    (∀ W, (Instr.sliceAt 22 (.slice (some aa) b.length ca) none (some (.int .i64 (j : Int))) none).run Tryd.prog W = .ok (.slice (some aa) j ca) W) := by
  have hca : b.length ≤ ca ∧ ca ≤ maxLen := by
    rcases h with ⟨e, _⟩ | ⟨a, c, e, e2, e3, _⟩
    · cases e
    · injection e with _ _ e; subst e; exact ⟨e2, e3⟩
  intro W
  rw [run_sliceAt_slice W _ _ _ _ _ und_bytes, run_slice_h W _ _ _ _ und_bytes _ _ (by omega) (by omega), elem_bytes, Tryd.sizeOf5]
  simp [sliced, Result.andThen]
  intro _
  simp [Addr.add]
set_option maxRecDepth 100000 in
set_option maxHeartbeats 4000000 in
theorem scans_law (S : Nat → Prop) (v : Value) (b : List UInt8) (w : World) (hb : BytesC S w v b) (hS : ∀ k, S k → k < w.heap.size) (hE : Env w) (hP : PEnv w) (hl : b.length ≤ 1048576) :
    Calls Tryd.prog 3 #[v] w fun e w' => e = .returned (.bool true) ∧ Below w.heap.size w w' := by
  have HA := Lib.hid (awake_any w hE hP)
  have HB := Lib.hid hb
  have HS := Lib.hid hS
  have HE := Lib.hid hE
  obtain ⟨a, ca, rfl⟩ := hb.shape
  obtain ⟨n, hn⟩ : ∃ n, b.length = n := ⟨_, rfl⟩
  rw [hn] at hl ⊢
  have HN := Lib.hid hn
  clear hb hS hE hP hn
  go_enter Tryd.func3, Tryd.ntmps3
  go_wp2_with fail
  refine HA.out.mono ?_
  rintro e w1 ⟨rfl, hb1⟩
  have B1 := Lib.hid hb1
  have HB1 := Lib.hid (HB.out.kept (S' := S) (w' := w1) (fun k hk => ⟨hk, hb1.block k (HS.out k hk)⟩))
  have hz1 := hb1.size
  clear hb1 HA
  go_upto_if 12 with fail
  go_cut [0] (fun s0 wx => ∃ (a' : Option Addr) (n' c' : Nat) (b' : List UInt8), s0 = .slice a' n' c' ∧ Hid (b'.length = n' ∧ n' ≤ 1500 ∧ BytesC S w1 (.slice a' n' c') b') ∧ wx = w1)
  case first =>
    by_cases hbig : 1500 < n
    · have hg : decide ((1500 : Int) < (n : Int)) = true := decide_eq_true (by omega)
      obtain ⟨aa, rfl⟩ : ∃ aa, a = some aa := by
        have h := HB1.out
        rw [HN.out] at h
        rcases h with ⟨_, e⟩ | ⟨x, c, e, _⟩
        · have := HN.out; rw [e] at this; simp at this; omega
        · injection e with e _ _; exact ⟨x, e⟩
      have hb1 := HB1.out
      have hrun0 := head_run hb1 1500 (by have := HN.out; omega)
      rw [HN.out] at hrun0
      have hrun : ∀ W, (Instr.sliceAt 22 (.slice (some aa) n ca) none (some (.int .i64 1500)) none).run Tryd.prog W = .ok (.slice (some aa) 1500 ca) W := hrun0
      have HC : Hid ((b.take 1500).length = 1500 ∧ 1500 ≤ 1500 ∧ BytesC S w1 (.slice (some aa) 1500 ca) (b.take 1500)) := Lib.hid ⟨by rw [List.length_take]; have := HN.out; omega, Nat.le_refl _, cut_c hb1 1500 (by have := HN.out; omega)⟩
      clear hbig hb1 hrun0
      rw [hg]
      go_wp2_with fail
      go_meet
      exact ⟨some aa, 1500, ca, b.take 1500, rfl, HC, rfl⟩
    · have hg : decide ((1500 : Int) < (n : Int)) = false := decide_eq_false (by omega)
      have HC : Hid (b.length = n ∧ n ≤ 1500 ∧ BytesC S w1 (.slice a n ca) b) := Lib.hid ⟨HN.out, by omega, by have h := HB1.out; rw [HN.out] at h; exact h⟩
      clear hbig
      rw [hg]
      go_wp2_with fail
      go_meet
      exact ⟨a, n, ca, b, rfl, HC, rfl⟩
  case rest =>
    obtain ⟨a', n', c', b', rfl, HC, rfl⟩ := hcut
    have hbc := HC.out.2.2
    rw [← HC.out.1] at hbc
    have HSC := Lib.hid (Scan_any S _ b' wc hbc (fun k hk => Nat.lt_of_lt_of_le (HS.out k hk) hz1) (HE.out.on B1.out) (by have := HC.out; omega))
    rw [HC.out.1] at HSC
    clear hbc HB1 HB
    go_wp2_with fail
    refine HSC.out.mono ?_
    rintro e w2 ⟨u, rfl, hch, hb2⟩
    obtain ⟨ua, uc, rfl⟩ : ∃ ua uc, u = .slice ua (scanL b').length uc := by
      rcases hch with ⟨h1, h2⟩ | ⟨x, cap, h1, _⟩
      · exact ⟨none, 0, by rw [h1, h2]; rfl⟩
      · exact ⟨some x, cap, h1⟩
    have CH := Lib.hid hch
    have hz2 := hb2.size
    have B2 := Lib.hid (B1.out.trans (hb2.mono hz1))
    have hcs := bytes_str (HC.out.2.2.kept (S' := S) (w' := w2) (fun k hk => ⟨hk, hb2.block k (Nat.lt_of_lt_of_le (HS.out k hk) hz1)⟩))
    have HRS := Lib.hid (rscan_any b' w2 (by have := HC.out; omega))
    have hml : (scanL b').length ≤ 1500 := by
      have h1 := framesL_ge (scanL b')
      have h2 := endL_le b'
      unfold endL at h2
      have := HC.out
      omega
    obtain ⟨L, hL⟩ : ∃ L, scanL b' = L := ⟨_, rfl⟩
    rw [hL] at CH hml ⊢
    obtain ⟨m, hm⟩ : ∃ m, L.length = m := ⟨_, rfl⟩
    rw [hm] at CH hml ⊢
    have HLL := Lib.hid hL
    have HM := Lib.hid hm
    obtain ⟨en, hen⟩ : ∃ en, (endL b' : Int) = en := ⟨_, rfl⟩
    have HEN := Lib.hid hen
    rw [hen]
    clear hch hb2 HSC hL hm hen
    go_wp2_with fail
    refine HRS.out.mono ?_
    rintro e w3 ⟨u3, rfl, ho3, hb3⟩
    rw [HLL.out] at ho3
    have hst := ownS_c ho3
    obtain ⟨ra, rc, rfl⟩ := ownS_slice ho3
    have hz3 := hb3.size
    have B3 := Lib.hid (B2.out.trans (hb3.mono (by omega)))
    have C3 := Lib.hid (CH.out.kept (S' := fun k => k < w3.heap.size) (w' := w3) (fun k hk => ⟨by omega, hb3.block k (by omega)⟩))
    have S3 := Lib.hid hst
    rw [HM.out] at S3 ⊢
    rw [HEN.out]
    clear ho3 hst hb3 HRS hcs
    go_wp2_with fail
    go_loopw [38] (fun i wr => ∃ k : Nat, k ≤ m ∧ i = .int .i64 (k : Int) ∧ wr.heap = w3.heap ∧ Below w.heap.size w wr) (fun i _ => m - (intOf i).toNat)
    case atStart => exact ⟨0, by omega, rfl, rfl, B3.out⟩
    case round =>
      obtain ⟨k, hk, rfl, hwh, hbw⟩ := hrel
      have C4 := Lib.hid (C3.out.kept (S' := fun k => k < wr.heap.size) (w' := wr) (fun q hq => ⟨by rw [hwh]; exact hq, by rw [hwh]⟩))
      have S4 := Lib.hid (S3.out.kept (S' := fun _ => True) (w' := wr) (fun q _ => ⟨trivial, by rw [hwh]⟩))
      have HWH := Lib.hid hwh
      have BW := Lib.hid hbw
      clear hwh hbw
      by_cases hlt : k < m
      · have hd : decide ((k : Int) < (m : Int)) = true := decide_eq_true (by omega)
        have hd2 : decide (k < m) = true := decide_eq_true hlt
        have hc := C4.out
        obtain ⟨xa, rfl, hcell⟩ : ∃ xa, ua = some xa ∧ ∀ j l, L[j]? = some l → ∃ vj, wr.cell? (xa.add j) = some vj ∧ BytesC (fun k => k < wr.heap.size) wr vj l := by
          rcases hc with ⟨h1, h2⟩ | ⟨x, cap, h1, _, _, _, h5⟩
          · have := HM.out; rw [h2] at this; simp at this; omega
          · injection h1 with h1 _ _
            exact ⟨x, h1, h5⟩
        obtain ⟨g, o, rfl, _, _, _, hs⟩ := (by have h := S4.out; rw [← HM.out] at h; exact h : StrsC _ wr (.slice ra L.length rc) L).at (by rw [HM.out]; omega)
        obtain ⟨t, ht⟩ : ∃ t, L.getD k [] = t := ⟨_, rfl⟩
        have hLk : L[k]? = some t := by
          have hkl : k < L.length := by rw [HM.out]; exact hlt
          rw [← ht, List.getElem?_eq_getElem hkl]
          simp [List.getD, List.getElem?_eq_getElem hkl]
        obtain ⟨vj, e1, e2⟩ := hcell k t hLk
        have e3 := hs k (by rw [HM.out]; exact hlt)
        rw [ht] at e3
        obtain ⟨va, vc, rfl⟩ := e2.shape
        have hcv := fun nq => bytes_str (e2.drewN nq)
        obtain ⟨tl, htl⟩ : ∃ tl, t.length = tl := ⟨_, rfl⟩
        rw [htl] at e1 hcv
        have d1 : ∀ nq, (wr.drewN nq).cell? (xa.add k) = some (.slice va tl vc) := fun _ => e1
        have d3 : ∀ nq, (wr.drewN nq).cell? ⟨g, o + k, none⟩ = some (.string ⟨t.toArray⟩) := fun _ => e3
        clear hc hcell hs ht hLk e1 e2 e3 htl
        go_upto_region 12 with fail
        go_quiet (fail)
        go_wp2_with fail
        go_roundw
        case rel => exact ⟨k + 1, by omega, by go_num, HWH.out, ⟨BW.out.os, BW.out.tape, BW.out.output, BW.out.size, BW.out.block⟩⟩
        case measure => simp only [intOf]; omega
      · have hd : decide ((k : Int) < (m : Int)) = false := decide_eq_false (by omega)
        have hd2 : decide (k < m) = false := decide_eq_false hlt
        go_wp2_with fail
        go_ret
        exact ⟨rfl, BW.out⟩
end Go.Proofs.YtgknihcpmpfocaaDoor
