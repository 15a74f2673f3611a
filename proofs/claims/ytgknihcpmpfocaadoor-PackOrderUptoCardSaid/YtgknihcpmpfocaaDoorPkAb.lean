/- The law PackOrder, walked. -/
import Derived.Test.YtgknihcpmpfocaaDoorPkAa
import Derived.Test.YtgknihcpmpfocaaDoorPkZ
import Derived.Deep.DeepCutAuto
import Derived.Deep.RegionHeld3
namespace Go.Proofs.YtgknihcpmpfocaaDoor
open Go.RowKit Go.Maps
attribute [local simp high] id_size id_zero

def boolsV (l : List Bool) : List Value := l.map .bool
def BoolsC (S : Nat → Prop) (w : World) (v : Value) (l : List Bool) : Prop := CellsC S w v l.length 1 (boolsV l)
/-- The two files and the two lists of ids, of which k are there. -/
structure OutI (b5 b6 : Nat) (A : List (List UInt8)) (k : Nat) (W : World) (f u : Nat → Value) : Prop where
  r5 : W.heap[b5]? = some (.cells #[f 0, f 1] 51 (0, 0))
  r6 : W.heap[b6]? = some (.cells #[u 0, u 1] 52 (0, 0))
  ne : b5 < b6
  fil : ∀ j, j < k → BytesC (fun q => b6 < q ∧ q < W.heap.size) W (f j) (framesL A)
  ids : ∀ j, j < k → IDsC (fun q => b6 < q ∧ q < W.heap.size) W (u j) (idsOf A)
theorem OutI.lt {b5 b6 : Nat} {A : List (List UInt8)} {k : Nat} {W : World} {f u : Nat → Value} (h : OutI b5 b6 A k W f u) : b6 < W.heap.size := (Array.getElem?_eq_some_iff.1 h.r6).1
theorem OutI.kept {b5 b6 : Nat} {A : List (List UInt8)} {k : Nat} {W W' : World} {f u : Nat → Value} (h : OutI b5 b6 A k W f u) (hb : Below W.heap.size W W') : OutI b5 b6 A k W' f u := by
  have h6 := h.lt
  have h5 := h.ne
  have hz := hb.size
  exact ⟨(hb.block b5 (by omega)).trans h.r5, (hb.block b6 h6).trans h.r6, h5, fun j hj => (h.fil j hj).kept (fun q hq => ⟨⟨hq.1, by omega⟩, hb.block q hq.2⟩), fun j hj => (h.ids j hj).kept (fun q hq => ⟨⟨hq.1, by omega⟩, hb.block q hq.2⟩)⟩
theorem OutI.cell {b5 b6 : Nat} {A : List (List UInt8)} {k : Nat} {W : World} {f u : Nat → Value} (h : OutI b5 b6 A k W f u) (j : Nat) (hj : j < 2) : W.cell? ⟨b5, j, none⟩ = some (f j) ∧ W.cell? ⟨b6, j, none⟩ = some (u j) ∧ W.frozen? ⟨b5, j, none⟩ = false ∧ W.frozen? ⟨b6, j, none⟩ = false := by
  refine ⟨?_, ?_, by unfold World.frozen?; rw [h.r5]; simp, by unfold World.frozen?; rw [h.r6]; simp⟩
  · rw [cell_of_row _ _ _ _ _ _ h.r5]
    match j, hj with
    | 0, _ => rfl
    | 1, _ => rfl
  · rw [cell_of_row _ _ _ _ _ _ h.r6]
    match j, hj with
    | 0, _ => rfl
    | 1, _ => rfl
theorem set_two (x y v : Value) (g : Nat → Value) (k : Nat) (hk : k < 2) (h0 : g 0 = if 0 = k then v else x) (h1 : g 1 = if 1 = k then v else y) : (#[x, y] : Array Value).setIfInBounds k v = #[g 0, g 1] := by
  match k, hk with
  | 0, _ => rw [h0, h1]; rfl
  | 1, _ => rw [h0, h1]; rfl
theorem out_next {b5 b6 : Nat} {A : List (List UInt8)} {k : Nat} {wk w7 w9 : World} {f u : Nat → Value} {v v' : Value} (h : OutI b5 b6 A k wk f u) (hk : k < 2) (h7 : Below wk.heap.size wk w7) (hv : Own w7 wk.heap.size v (framesL A))
    (h9 : Below (w7.setCell ⟨b5, k, none⟩ v).heap.size (w7.setCell ⟨b5, k, none⟩ v) w9) (hv' : w9.ownsRow w7.heap.size 44 32 v' (idsOf A).length (idsV (idsOf A))) :
    OutI b5 b6 A (k + 1) (w9.setCell ⟨b6, k, none⟩ v') (fun j => if j = k then v else f j) (fun j => if j = k then v' else u j) := by
  have h6 := h.lt
  have h5 := h.ne
  have hz7 := h7.size
  have hz8 : (w7.setCell ⟨b5, k, none⟩ v).heap.size = w7.heap.size := by simp
  have hz9 := h9.size
  have hzf : (w9.setCell ⟨b6, k, none⟩ v').heap.size = w9.heap.size := by simp
  have keep : ∀ q, q < w7.heap.size → q ≠ b5 → q ≠ b6 → (w9.setCell ⟨b6, k, none⟩ v').heap[q]? = w7.heap[q]? := fun q h1 h2 h3 => by
    rw [heap_setCell_other _ _ _ _ (by simpa using h3), h9.block q (by omega), heap_setCell_other _ _ _ _ (by simpa using h2)]
  have r57 := (h7.block b5 (by omega)).trans h.r5
  have r67 := (h7.block b6 h6).trans h.r6
  refine ⟨?_, ?_, h5, fun j hj => ?_, fun j hj => ?_⟩
  · rw [heap_setCell_other _ _ _ _ (by simp; omega), h9.block b5 (by omega), heap_setCell_same w7 b5 k _ _ _ r57]
    rw [set_two (f 0) (f 1) v (fun j => if j = k then v else f j) k hk rfl rfl]
  · have r69 : w9.heap[b6]? = _ := (h9.block b6 (by omega)).trans ((heap_setCell_other _ _ _ _ (by simp; omega)).trans r67)
    rw [heap_setCell_same w9 b6 k _ _ _ r69]
    rw [set_two (u 0) (u 1) v' (fun j => if j = k then v' else u j) k hk rfl rfl]
  · by_cases e : j = k
    · rw [if_pos e]
      exact (own_c hv).kept (fun q hq => ⟨⟨by omega, by omega⟩, keep q hq.2 (by omega) (by omega)⟩)
    · rw [if_neg e]
      exact (h.fil j (by omega)).kept (fun q hq => ⟨⟨hq.1, by omega⟩, (keep q (by omega) (by omega) (by omega)).trans (h7.block q hq.2)⟩)
  · by_cases e : j = k
    · rw [if_pos e]
      exact (own_ids hv' idsOf_32).kept (fun q hq => ⟨⟨by omega, by omega⟩, by rw [heap_setCell_other _ _ _ _ (by simp; omega)]⟩)
    · rw [if_neg e]
      exact (h.ids j (by omega)).kept (fun q hq => ⟨⟨hq.1, by omega⟩, (keep q (by omega) (by omega) (by omega)).trans (h7.block q hq.2)⟩)
set_option maxRecDepth 100000 in
set_option maxHeartbeats 8000000 in
theorem order_law (S : Nat → Prop) (v vo : Value) (ls : List (List UInt8)) (bs : List Bool) (w : World) (h : ChunksC S w v ls) (ho : BoolsC S w vo bs) (hS : ∀ k, S k → k < w.heap.size) (hE : Env w) (hP : PEnv w) (hl : ls.length ≤ 1048576) (hll : ∀ x ∈ ls, x.length ≤ 1048576) :
    Calls Tryd.prog 5 #[v, vo] w fun e w' => e = .returned (.bool true) ∧ Below w.heap.size w w' := by
  have HA := Lib.hid (awake_any w hE hP)
  have HS := Lib.hid hS
  have HE := Lib.hid hE
  have HP := Lib.hid hP
  have HC := Lib.hid h
  have HLL := Lib.hid hll
  obtain ⟨a, c, rfl⟩ : ∃ a c, v = .slice a ls.length c := by
    rcases h with ⟨h1, h2⟩ | ⟨x, cap, h1, _⟩
    · exact ⟨none, 0, by rw [h1, h2]; rfl⟩
    · exact ⟨some x, cap, h1⟩
  obtain ⟨oa, oc, rfl⟩ := CellsC.shape ho
  have HO := Lib.hid ho
  obtain ⟨n, hn⟩ : ∃ n, ls.length = n := ⟨_, rfl⟩
  obtain ⟨nb, hnb⟩ : ∃ nb, bs.length = nb := ⟨_, rfl⟩
  have HN := Lib.hid hn
  have HNB := Lib.hid hnb
  have HCL : Hid (∀ W, Below w.heap.size w W → ChunksC S W (.slice a n c) ls) := Lib.hid (fun W hW => by
    have h2 := HC.out.kept (S' := S) (w' := W) (fun k hk => ⟨hk, hW.block k (hS k hk)⟩)
    rw [hn] at h2; exact h2)
  rw [hn] at hl ⊢
  rw [hnb]
  clear h ho hS hE hP hll hn hnb
  go_enter Tryd.func5, Tryd.ntmps5
  go_wp2_with fail
  refine HA.out.mono ?_
  rintro e w1 ⟨rfl, hb1⟩
  have B1 := Lib.hid hb1
  clear hb1 HA
  by_cases hfew : 40 < n
  · have hd : decide ((40 : Int) < (n : Int)) = true := decide_eq_true (by omega)
    have hd2 : decide ((n : Int) > 40) = true := decide_eq_true (by omega)
    clear hfew
    go_wp2_with fail
    go_ret
    exact ⟨rfl, B1.out⟩
  · have hd : decide ((40 : Int) < (n : Int)) = false := decide_eq_false (by omega)
    have hd2 : decide ((n : Int) > 40) = false := decide_eq_false (by omega)
    have HTW := Lib.hid (twins_any S _ ls w1 (HCL.out w1 B1.out) (fun k hk => Nat.lt_of_lt_of_le (HS.out k hk) B1.out.size) (HE.out.on B1.out) (by have := HN.out; omega) HLL.out)
    have HFEW : Hid (n ≤ 40) := Lib.hid (by omega)
    clear hfew
    go_wp2_with fail
    refine HTW.out.mono ?_
    rintro e w2 ⟨t, rfl, hb2, hinj⟩
    have B2 := Lib.hid (B1.out.trans (hb2.mono B1.out.size))
    have HIN := Lib.hid hinj
    clear hb2 HTW hinj
    cases t with
    | true =>
      go_wp2_with fail
      go_ret
      exact ⟨rfl, B2.out⟩
    | false =>
      have HINJ : Hid (InjL ls) := Lib.hid (HIN.out rfl)
      obtain ⟨A, hA⟩ : ∃ A, recsL ls = A := ⟨_, rfl⟩
      have HAA := Lib.hid hA
      clear hA HIN
      obtain ⟨b5, hb5⟩ : ∃ b5, b5 = w2.heap.size := ⟨_, rfl⟩
      obtain ⟨b6, hb6⟩ : ∃ b6, b6 = w2.heap.size + 1 := ⟨_, rfl⟩
      have HOUT : Hid (OutI b5 b6 A 0 ((w2.alloc (.cells #[.slice none 0 0, .slice none 0 0] 51)).alloc (.cells #[.slice none 0 0, .slice none 0 0] 52)) (fun _ => .slice none 0 0) (fun _ => .slice none 0 0)) := Lib.hid ⟨by
          rw [hb5]; exact (Below.heap_alloc _ _ _ (by simp)).trans (new_five w2 _ _), by
          have h := new_five (w2.alloc (.cells #[.slice none 0 0, .slice none 0 0] 51)) #[.slice none 0 0, .slice none 0 0] 52
          rw [World.size_alloc] at h
          rw [hb6]; exact h, by omega, fun j hj => by omega, fun j hj => by omega⟩
      have B4 := Lib.hid ((B2.out.alloc B2.out.size (.cells #[.slice none 0 0, .slice none 0 0] 51)).alloc (by simp; have := B2.out.size; omega) (.cells #[.slice none 0 0, .slice none 0 0] 52))
      have HB5 : Hid (w.heap.size ≤ b5) := Lib.hid (by have := B2.out.size; omega)
      go_upto_region 7 with fail
      generalize (w2.alloc (.cells #[.slice none 0 0, .slice none 0 0] 51)).alloc (.cells #[.slice none 0 0, .slice none 0 0] 52) = w4 at *
      rw [← hb6, ← hb5]
      clear hb5 hb6
      go_wp2_with fail
      go_loopw [7] (fun s7 wr => ∃ (k : Nat) (f u : Nat → Value), k ≤ 2 ∧ s7 = .int .i64 (k : Int) ∧ OutI b5 b6 A k wr f u ∧ Below w.heap.size w wr) (fun s7 _ => 2 - (intOf s7).toNat)
      case atStart => exact ⟨0, _, _, by omega, rfl, HOUT.out, B4.out⟩
      case round =>
        obtain ⟨k, f, u, hk, rfl, hOI, hBR⟩ := hrel
        obtain ⟨wk, hwk⟩ : ∃ wk, wk = wr := ⟨_, rfl⟩
        rw [← hwk] at hOI hBR ⊢
        have HOI := Lib.hid hOI
        have BK := Lib.hid hBR
        clear hwk hOI hBR HOUT B4
        by_cases hk2 : k < 2
        · have hd3 : decide ((k : Int) < 2) = true := decide_eq_true (by omega)
          have HNW := Lib.hid (g_new (Below.refl wk.heap.size wk) 4194304 (by omega))
          go_wp2_with fail
          refine HNW.out.mono ?_
          rintro e w5 ⟨bf, rfl, g5, _⟩
          have G5 : Hid (FsG wk (fun _ => False) w5 bf (newS 4194304)) := Lib.hid (g5.less (fun _ h => h.elim))
          clear g5 HNW
          have HCR := Lib.hid (pcreate_any G5.out (Nat.zero_le _) (HP.out.on BK.out) [112] (by decide))
          go_wp2_with fail
          refine HCR.out.mono ?_
          rintro e w6 ⟨_, _, h2⟩
          rcases h2 with ⟨h2, _⟩ | ⟨_, bp, T2, rfl, g6, _⟩
          · exact absurd (new_one 4194304).1 h2
          have G6 := Lib.hid g6
          clear g6 HCR G5
          go_wp2_with fail
          go_loopw [10, 46] (fun s10 s46 wq => ∃ (i bq : Nat) (F T : Nat → Prop) (s : Fs), i ≤ n ∧ s46 = .int .i64 (i : Int) ∧ s10 = .pointer (some ⟨bq, 0, none⟩) ∧ PkG wk F T wq bq bf s [112] (recsL (ls.take i)) ∧ OrdF s (i + 1) ∧ (∀ x ∈ ls.take i, x.length ≤ 20000)) (fun _ s46 _ => n - (intOf s46).toNat)
          case atStart => exact ⟨0, bp, _, _, _, by omega, rfl, rfl, G6.out, new_ord, fun x hx => (by cases hx)⟩
          case round =>
            obtain ⟨i, bq, F, T, s, hi, rfl, rfl, hg, hord, hsm⟩ := hrel
            obtain ⟨wi, hwi⟩ : ∃ wi, wi = wr := ⟨_, rfl⟩
            rw [← hwi] at hg ⊢
            have G := Lib.hid hg
            have ORD := Lib.hid hord
            have SM := Lib.hid hsm
            have BI := Lib.hid (BK.out.trans (hg.fs.below.mono BK.out.size))
            clear hwi hg hord hsm G6
            by_cases hlt : i < n
            · have hdi : decide ((i : Int) < (n : Int)) = true := decide_eq_true (by omega)
              have hdi2 : decide (i < n) = true := decide_eq_true hlt
              have hlen := HN.out
              obtain ⟨d, hd0⟩ : ∃ d, ls[i]? = some d := ⟨_, List.getElem?_eq_getElem (by omega)⟩
              obtain ⟨xa, rfl, hcell⟩ : ∃ xa, a = some xa ∧ ∃ vd, wi.cell? (xa.add i) = some vd ∧ BytesC S wi vd d := by
                rcases HCL.out wi BI.out with ⟨_, h2⟩ | ⟨x, cap, h1, _, _, _, h5⟩
                · rw [h2] at hlen; simp at hlen; omega
                · injection h1 with h1 _ _
                  exact ⟨x, h1, h5 i d hd0⟩
              obtain ⟨vd, e1, e2⟩ := hcell
              obtain ⟨da, dc, rfl⟩ := e2.shape
              obtain ⟨dl, hdl⟩ : ∃ dl, d.length = dl := ⟨_, rfl⟩
              rw [hdl] at e1 e2
              have HDC := Lib.hid e2
              have HDL := Lib.hid hdl
              have HTK : Hid (ls.take (i + 1) = ls.take i ++ [d] ∧ d ∈ ls) := Lib.hid (by
                have hil : i < ls.length := by omega
                have e : ls[i] = d := by rw [List.getElem?_eq_getElem hil] at hd0; exact Option.some.inj hd0
                exact ⟨by rw [List.take_succ_eq_append_getElem hil, e], by rw [← e]; exact List.getElem_mem hil⟩)
              clear hlen hd0 e2 hdl
              by_cases hbig : 20000 < dl
              · have hdb : decide ((20000 : Int) < (dl : Int)) = true := decide_eq_true (by omega)
                have hdb2 : decide ((dl : Int) > 20000) = true := decide_eq_true (by omega)
                clear hbig
                go_wp2_with fail
                go_ret
                exact ⟨rfl, BI.out⟩
              · have hdb : decide ((20000 : Int) < (dl : Int)) = false := decide_eq_false (by omega)
                have hdb2 : decide ((dl : Int) > 20000) = false := decide_eq_false (by omega)
                have hd20 : d.length ≤ 20000 := by rw [HDL.out]; omega
                have hrm : ∀ r ∈ recsL (ls.take i), r.length ≤ 20000 := fun r hr => SM.out r (mem_recsL hr)
                have hfb := framesL_bound hrm
                have hrl := recsL_len (ls.take i)
                have htl : (ls.take i).length ≤ 40 := by rw [List.length_take]; have := HFEW.out; omega
                have hmul : (recsL (ls.take i)).length * 20012 ≤ 40 * 20012 := Nat.mul_le_mul_right _ (by omega)
                obtain ⟨s', hadd, hord'⟩ := addR_ord (d := d) ORD.out G.out.read hd20 (by omega) (fun r hr hs => HINJ.out r (List.mem_of_mem_take (mem_recsL hr)) d HTK.out.2 hs)
                rw [← recsL_snoc, ← HTK.out.1] at hadd
                have HAD := add_any G.out (HE.out.on BI.out) (by have := ORD.out.steps; have := HFEW.out; omega) S _ d HDC.out (fun q hq => Nat.lt_of_lt_of_le (HS.out q hq) BI.out.size)
                rw [hadd] at HAD
                have HADD := Lib.hid HAD
                have ORD' := Lib.hid hord'
                have SM' : Hid (∀ x ∈ ls.take (i + 1), x.length ≤ 20000) := Lib.hid (by
                  rw [HTK.out.1]
                  intro x hx
                  rcases List.mem_append.1 hx with hx | hx
                  · exact SM.out x hx
                  · rw [List.mem_singleton] at hx; rw [hx]; exact hd20)
                obtain ⟨X, hX⟩ : ∃ X, sumN d = X := ⟨_, rfl⟩
                rw [hX] at HADD
                have hX32 : X.length = 32 := by rw [← hX]; exact sumN_len _
                have H32 := Lib.hid hX32
                clear hbig hrm hfb hrl htl hmul hadd HAD hord' hX hX32 hd20
                go_wp2_with fail
                refine HADD.out.mono ?_
                rintro e w7 ⟨rfl, hz7, _, T7, g7, _⟩
                have G7 := Lib.hid g7
                have zx : (bv X).length = n32 := by rw [bv_len, H32.out]; rfl
                have zz : (bv zeros).length = n32 := rfl
                have hn8 := IDAt.new w7
                have c8 := hn8.write (l := X) H32.out
                have B8 := Lib.hid (below_setRow ((Below.refl w7.heap.size w7).alloc (Nat.le_refl _) (.cells (bv zeros).toArray 44)) (Nat.le_refl _) (bv X).toArray)
                clear hn8 g7 HADD
                go_upto_region 22 with fail
                generalize (w7.alloc (.cells (bv zeros).toArray 44)).setRow w7.heap.size (bv X).toArray = w8 at *
                clear c8 e1
                have G8 := Lib.hid (G7.out.beside B8.out)
                have B8W := Lib.hid (BK.out.trans (G8.out.fs.below.mono BK.out.size))
                obtain ⟨bk, hbk⟩ : ∃ bk, ((k : Int) == 1) = bk := ⟨_, rfl⟩
                cases bk with
                | false =>
                  go_wp2_with fail
                  go_roundw
                  case rel => exact ⟨i + 1, bq, _, _, s', by omega, by go_num, rfl, G8.out, ORD'.out, SM'.out⟩
                  case measure => simp only [intOf]; omega
                | true =>
                  by_cases hinb : i < nb
                  · have hdn : decide ((i : Int) < (nb : Int)) = true := decide_eq_true (by omega)
                    have hdn2 : decide (i < nb) = true := decide_eq_true hinb
                    obtain ⟨og, oo, rfl, hSo, _, _, hob⟩ := (by have h := HO.out; exact h : CellsC S w (.slice oa bs.length oc) bs.length 1 (boolsV bs)).at (by rw [HNB.out]; omega)
                    obtain ⟨ob, hob2⟩ : ∃ ob, bs[i]? = some ob := ⟨_, List.getElem?_eq_getElem (by rw [HNB.out]; exact hinb)⟩
                    have eo : w8.cell? ⟨og, oo + i, none⟩ = some (.bool ob) := by
                      have h1 := hob i (.bool ob) (by unfold boolsV; rw [List.getElem?_map, hob2]; rfl)
                      rw [← h1]
                      exact World.cell?_of_block (B8W.out.block og (HS.out og hSo))
                    clear hob hSo hob2
                    cases ob with
                    | false =>
                      go_wp2_with fail
                      go_roundw
                      case rel => exact ⟨i + 1, bq, _, _, s', by omega, by go_num, rfl, G8.out, ORD'.out, SM'.out⟩
                      case measure => simp only [intOf]; omega
                    | true =>
                      have HOP := popen_any G8.out.fs (HE.out.on B8W.out) (by have := ORD'.out.steps; have := HFEW.out; omega) [112] (by decide)
                      rw [openR_same G8.out.read (fun r hr => Nat.le_trans (SM'.out r (mem_recsL hr)) (by omega))] at HOP
                      have HOPP := Lib.hid HOP
                      clear HOP
                      go_wp2_with fail
                      refine HOPP.out.mono ?_
                      rintro e w9 ⟨_, _, br, Tr, rfl, g9, _⟩
                      have G9 := Lib.hid g9
                      clear g9 HOPP
                      go_wp2_with fail
                      go_roundw
                      case rel => exact ⟨i + 1, br, _, _, s', by omega, by go_num, rfl, G9.out, ORD'.out, SM'.out⟩
                      case measure => simp only [intOf]; omega
                  · have hdn : decide ((i : Int) < (nb : Int)) = false := decide_eq_false (by omega)
                    have hdn2 : decide (i < nb) = false := decide_eq_false hinb
                    go_wp2_with fail
                    go_roundw
                    case rel => exact ⟨i + 1, bq, _, _, s', by omega, by go_num, rfl, G8.out, ORD'.out, SM'.out⟩
                    case measure => simp only [intOf]; omega
            · have hdi : decide ((i : Int) < (n : Int)) = false := decide_eq_false (by omega)
              have hdi2 : decide (i < n) = false := decide_eq_false hlt
              obtain rfl : i = n := by omega
              have hta : recsL (ls.take i) = A := by rw [List.take_of_length_le (by rw [HN.out]; exact Nat.le_refl _)]; exact HAA.out
              have hgr := G.out
              rw [hta] at hgr
              have GA := Lib.hid hgr
              have HRD := g_read hgr.fs [112] (by decide)
              rw [hgr.read] at HRD
              have HRR := Lib.hid HRD
              clear hta hgr HRD
              go_wp2_with fail
              refine HRR.out.mono ?_
              rintro e w7 ⟨vf, rfl, hof, hbf⟩
              obtain ⟨fa, fc, rfl⟩ := own_slice hof
              have h7 : Below wk.heap.size wk w7 := GA.out.fs.below.trans (hbf.mono GA.out.fs.below.size)
              have OF := Lib.hid (own_base hof GA.out.fs.below.size)
              have B7 := Lib.hid h7
              have BF := Lib.hid hbf
              have O7 := Lib.hid (HOI.out.kept h7)
              obtain ⟨c1, _, c3, _⟩ := O7.out.cell k hk2
              clear hof hbf h7 HRR
              go_upto_region 30 with fail
              have h8h : ∀ q, q ≠ b5 → (w7.setCell ⟨b5, k, none⟩ (.slice fa (framesL A).length fc)).heap[q]? = w7.heap[q]? := fun q hq => heap_setCell_other _ _ _ _ (by simpa using hq)
              obtain ⟨bm, np, D, vi, hpk, _, _⟩ := GA.out.pk
              have hpl := hpk.lt
              have hp8 := hpk.kept (w' := w7.setCell ⟨b5, k, none⟩ (.slice fa (framesL A).length fc)) (fun q hq => by
                have h1 := hpl q hq
                have h2 := HOI.out.lt
                have h3 := HOI.out.ne
                exact (h8h q (by omega)).trans (BF.out.block q h1.2))
              have HID := Lib.hid (ids_any hp8 GA.out.few)
              have hz8 : (w7.setCell ⟨b5, k, none⟩ (.slice fa (framesL A).length fc)).heap.size = w7.heap.size := by simp
              have c5 : (w7.setCell ⟨b5, k, none⟩ (.slice fa (framesL A).length fc)).heap[b6]? = some (.cells #[u 0, u 1] 52 (0, 0)) := (h8h b6 (by have := HOI.out.ne; omega)).trans O7.out.r6
              have C5 := Lib.hid c5
              clear hpk hpl hp8 c1 c3 c5
              generalize hw8 : w7.setCell ⟨b5, k, none⟩ (.slice fa (framesL A).length fc) = w8 at *
              have HW8 := Lib.hid hw8
              clear hw8
              go_wp2_with fail
              refine HID.out.mono ?_
              rintro e w9 ⟨vi9, rfl, ho9, hb9⟩
              obtain ⟨ia, ic, rfl⟩ := row_shape_any ho9
              have r9 : w9.heap[b6]? = _ := (hb9.block b6 (by have := O7.out.lt; omega)).trans C5.out
              have c2 : w9.cell? ⟨b6, k, none⟩ = some (u k) := by
                rw [cell_of_row _ _ _ _ _ _ r9]
                match k, hk2 with
                | 0, _ => rfl
                | 1, _ => rfl
              have c4 : w9.frozen? ⟨b6, k, none⟩ = false := by unfold World.frozen?; rw [r9]; simp
              have hb9' := hb9
              rw [← HW8.out] at hb9'
              rw [hz8] at ho9
              have HNX := Lib.hid (out_next HOI.out hk2 B7.out OF.out hb9' ho9)
              have B9 : Hid (Below w.heap.size w w9) := Lib.hid (by
                have h1 := BK.out.trans (B7.out.mono BK.out.size)
                have h2 := h1.setCell (p := ⟨b5, k, none⟩) HB5.out (.slice fa (framesL A).length fc)
                rw [HW8.out] at h2
                exact h2.trans (hb9.mono h2.size))
              clear ho9 hb9 r9 hb9' HID
              go_wp2_with fail
              go_roundw
              case rel => exact ⟨k + 1, _, _, by omega, by go_num, HNX.out, B9.out.setCell (p := ⟨b6, k, none⟩) (by have := HB5.out; have := HOI.out.ne; show w.heap.size ≤ b6; omega) _⟩
              case measure => simp only [intOf]; omega
        · have hd3 : decide ((k : Int) < 2) = false := decide_eq_false (by omega)
          obtain rfl : k = 2 := by omega
          have hfil0 := HOI.out.fil 0 (by omega)
          have hfil1 := HOI.out.fil 1 (by omega)
          have hids0 := HOI.out.ids 0 (by omega)
          have hids1 := HOI.out.ids 1 (by omega)
          have p0 := (HOI.out.cell 0 (by omega)).1
          have p1 := (HOI.out.cell 1 (by omega)).1
          have q0 := (HOI.out.cell 0 (by omega)).2.1
          have q1 := (HOI.out.cell 1 (by omega)).2.1
          have HB6 := Lib.hid HOI.out.lt
          obtain ⟨f0a, f0c, hf0⟩ := hfil0.shape
          obtain ⟨f1a, f1c, hf1⟩ := hfil1.shape
          obtain ⟨u0a, u0c, hu0⟩ := hids0.shape
          obtain ⟨u1a, u1c, hu1⟩ := hids1.shape
          rw [hf0] at hfil0 p0
          rw [hf1] at hfil1 p1
          rw [hu0] at hids0 q0
          rw [hu1] at hids1 q1
          obtain ⟨tx, htx⟩ : ∃ tx, framesL A = tx := ⟨_, rfl⟩
          rw [htx] at hfil0 hfil1 p0 p1
          obtain ⟨tl, htl⟩ : ∃ tl, tx.length = tl := ⟨_, rfl⟩
          have k0 := bytes_str hfil0
          have k1 := bytes_str hfil1
          rw [htl] at p0 p1 k0 k1
          obtain ⟨I, hI⟩ : ∃ I, idsOf A = I := ⟨_, rfl⟩
          rw [hI] at hids0 hids1 q0 q1
          obtain ⟨m, hm⟩ : ∃ m, I.length = m := ⟨_, rfl⟩
          have I0 := Lib.hid hids0
          have I1 := Lib.hid hids1
          have HM := Lib.hid hm
          rw [hm] at q0 q1
          have Q0 := Lib.hid q0
          have Q1 := Lib.hid q1
          have hbe : (tx == tx) = true := beq_self_eq_true tx
          have HSUB : Hid ((I.drop 0).Sublist ((ls.map sumN).drop 0)) := Lib.hid (by
            rw [List.drop_zero, List.drop_zero, ← hI, ← HAA.out]
            exact ids_recsL ls)
          have HI32 : Hid (∀ x ∈ I, x.length = 32) := Lib.hid (by rw [← hI]; exact idsOf_32)
          have HML : Hid ((ls.map sumN).length = n) := Lib.hid (by rw [List.length_map]; exact HN.out)
          obtain ⟨M, hMM⟩ : ∃ M, ls.map sumN = M := ⟨_, rfl⟩
          rw [hMM] at HSUB HML
          have hmn : m ≤ n := by
            have h := HSUB.out.length_le
            rw [List.drop_zero, List.drop_zero, hm, HML.out] at h
            exact h
          have HMM := Lib.hid hMM
          have HBW0 := Lib.hid (Below.refl wk.heap.size wk)
          clear hfil0 hfil1 hids0 hids1 hf0 hf1 hu0 hu1 htx htl hI hm hMM
          go_wp2_with fail
          go_loopw [16, 114] (fun s16 s114 wr => ∃ (i p : Nat), i ≤ m ∧ p ≤ n ∧ s114 = .int .i64 (i : Int) ∧ s16 = .int .i64 (p : Int) ∧ Hid ((I.drop i).Sublist (M.drop p) ∧ (0 < i → p < n)) ∧ Below wk.heap.size wk wr) (fun _ s114 _ => m - (intOf s114).toNat)
          case atStart => exact ⟨0, 0, by omega, by omega, rfl, rfl, Lib.hid ⟨HSUB.out, fun h => by omega⟩, HBW0.out⟩
          case round =>
            obtain ⟨i, p, hi, hp, rfl, rfl, HR, hbw⟩ := hrel
            obtain ⟨wi, hwi⟩ : ∃ wi, wi = wr := ⟨_, rfl⟩
            rw [← hwi] at hbw ⊢
            have BWI := Lib.hid hbw
            clear hwi hbw
            by_cases him : i < m
            · have hdi : decide ((i : Int) < (m : Int)) = true := decide_eq_true (by omega)
              have hdi2 : decide (i < m) = true := decide_eq_true him
              obtain ⟨X, hX⟩ : ∃ X, I[i]? = some X := ⟨_, List.getElem?_eq_getElem (by rw [HM.out]; exact him)⟩
              have hXd : I.getD i [] = X := by simp [List.getD, hX]
              have hX32 : X.length = 32 := HI32.out X (List.mem_of_getElem? hX)
              have H32 := Lib.hid hX32
              have HXI := Lib.hid hX
              have hsh : ∀ (u : Option Addr) (c : Nat), IDsC (fun q => b6 < q ∧ q < wk.heap.size) wk (.slice u I.length c) I → ∃ xa, u = some xa ∧ ∀ W, Below wk.heap.size wk W → (loadCellsFrom (xa.add (i * n32)) 0 n32 #[]).run Tryd.prog W = .ok (bv X).toArray W := fun u c h => by
                rcases h with ⟨h1, _⟩ | ⟨xa, cap, h1, h2, h3, h4⟩
                · have := HM.out; rw [h1] at this; simp at this; omega
                · injection h1 with h1 _ h1c
                  subst h1 h1c
                  refine ⟨xa, rfl, fun W hW => ?_⟩
                  have hk : IDsC (fun q => b6 < q ∧ q < wk.heap.size) W (.slice (some xa) I.length c) I := IDsC.kept (Or.inr ⟨xa, c, rfl, h2, h3, h4⟩) (fun q hq => ⟨hq, hW.block q hq.2⟩)
                  have h5 := hk.cells i (by rw [HM.out]; exact him)
                  rw [hXd] at h5
                  exact h5
              obtain ⟨x0, rfl, hl0⟩ := hsh u0a u0c I0.out
              obtain ⟨x1, rfl, hl1⟩ := hsh u1a u1c I1.out
              have HL0 := Lib.hid hl0
              have e6 : ∀ nq, (wi.drewN nq).cell? ⟨b6, 0, none⟩ = some (.slice (some x0) m u0c) := fun nq => by rw [← Q0.out]; exact World.cell?_of_block (BWI.out.block b6 HB6.out)
              have e7 : ∀ nq, (wi.drewN nq).cell? ⟨b6, 1, none⟩ = some (.slice (some x1) m u1c) := fun nq => by rw [← Q1.out]; exact World.cell?_of_block (BWI.out.block b6 HB6.out)
              have l0 : ∀ nq, (loadCellsFrom (x0.add (i * n32)) 0 n32 #[]).run Tryd.prog (wi.drewN nq) = .ok (bv X).toArray (wi.drewN nq) := fun nq => hl0 _ (BWI.out.trans ⟨rfl, rfl, rfl, Nat.le_refl _, fun _ _ => rfl⟩)
              have l1 : ∀ nq, (loadCellsFrom (x1.add (i * n32)) 0 n32 #[]).run Tryd.prog (wi.drewN nq) = .ok (bv X).toArray (wi.drewN nq) := fun nq => hl1 _ (BWI.out.trans ⟨rfl, rfl, rfl, Nat.le_refl _, fun _ _ => rfl⟩)
              have hneq : ∀ W, (binOp .neq 44 (.agg (bv X).toArray) (.agg (bv X).toArray)).run Tryd.prog W = .ok (.bool false) W := fun W => by have h := id_neq W hX32 hX32; simpa using h
              have zx : (bv X).length = n32 := by rw [bv_len, hX32]; rfl
              clear hX hXd hX32 hsh hl0 hl1
              go_upto_region 37 with fail
              go_quiet (fail)
              clear e6 e7 l0 l1
              go_wp2_with fail
              go_loopw [16] (fun s16 wr => ∃ p : Nat, p ≤ n ∧ s16 = .int .i64 (p : Int) ∧ Hid ((I.drop i).Sublist (M.drop p)) ∧ Below wk.heap.size wk wr) (fun s16 _ => n - (intOf s16).toNat)
              case atStart => exact ⟨p, hp, rfl, Lib.hid HR.out.1, ⟨BWI.out.os, BWI.out.tape, BWI.out.output, BWI.out.size, BWI.out.block⟩⟩
              case round =>
                obtain ⟨p2, hp2, rfl, HSB, hbw⟩ := hrel
                obtain ⟨wq, hwq⟩ : ∃ wq, wq = wr := ⟨_, rfl⟩
                rw [← hwq] at hbw ⊢
                have BQ := Lib.hid hbw
                clear hwq hbw
                have hpn : p2 < n := by have h := sub_there HSB.out HXI.out; rw [HML.out] at h; exact h
                have hdp : decide ((p2 : Int) < (n : Int)) = true := decide_eq_true (by omega)
                have hdp2 : decide (p2 < n) = true := decide_eq_true hpn
                have hbww : Below w.heap.size w wq := BK.out.trans (BQ.out.mono BK.out.size)
                obtain ⟨d, hd0⟩ : ∃ d, ls[p2]? = some d := ⟨_, List.getElem?_eq_getElem (by rw [HN.out]; exact hpn)⟩
                have HMD : Hid (M[p2]? = some (sumN d)) := Lib.hid (by rw [← HMM.out, List.getElem?_map, hd0]; rfl)
                have HDM : Hid (d.length ≤ 1048576) := Lib.hid (HLL.out d (List.mem_of_getElem? hd0))
                obtain ⟨xa, rfl, hSx, hcell⟩ : ∃ xa, a = some xa ∧ S xa.block ∧ ∃ vd, wq.cell? (xa.add p2) = some vd ∧ BytesC S wq vd d := by
                  have hlen := HN.out
                  rcases HCL.out wq hbww with ⟨_, h2⟩ | ⟨x, cap, h1, _, _, h4, h5⟩
                  · rw [h2] at hlen; simp at hlen; omega
                  · injection h1 with h1 _ _
                    refine ⟨x, h1, ?_, h5 p2 d hd0⟩
                    rcases h4 with h4 | h4
                    · rw [h4] at hlen; simp at hlen; omega
                    · exact h4
                obtain ⟨vd, e1, e2⟩ := hcell
                obtain ⟨da, dc, rfl⟩ := e2.shape
                obtain ⟨dl, hdl⟩ : ∃ dl, d.length = dl := ⟨_, rfl⟩
                rw [hdl] at e1 e2
                have hxlt : xa.block < wq.heap.size := Nat.lt_of_lt_of_le (HS.out _ hSx) hbww.size
                have hSq : ∀ q, S q → q < wq.heap.size := fun q hq => Nat.lt_of_lt_of_le (HS.out q hq) hbww.size
                have HCH : Hid (ChunksC (fun q => S q ∨ q = wq.heap.size) (wq.alloc (.cells #[.slice da dl dc] 22)).drew (.slice (some ⟨wq.heap.size, 0, none⟩) 1 1) [d]) := Lib.hid (chunk_lit e2 hSq)
                have HSQ := Lib.hid hSq
                have HFD : Hid ([d].flatten = d) := Lib.hid (by simp)
                have HEV : Hid (∀ W, Below wq.heap.size wq W → Env W) := Lib.hid (fun W hW => (HE.out.on hbww).on hW)
                obtain ⟨Y, hY⟩ : ∃ Y, sumN d = Y := ⟨_, rfl⟩
                rw [hY] at HMD
                have HYS := Lib.hid hY
                have hY32 : Y.length = 32 := by rw [← hY]; exact sumN_len _
                have hkk : ∀ W : World, Below wq.heap.size wq W → W.cell? (xa.add p2) = some (.slice da dl dc) ∧ W.cell? ⟨b6, 0, none⟩ = some (.slice (some x0) m u0c) ∧ (loadCellsFrom (x0.add (i * n32)) 0 n32 #[]).run Tryd.prog W = .ok (bv X).toArray W := fun W hW => by
                  have hb6 : b6 < wq.heap.size := Nat.lt_of_lt_of_le HB6.out BQ.out.size
                  refine ⟨?_, ?_, HL0.out W (BQ.out.trans (hW.mono BQ.out.size))⟩
                  · rw [← e1]; exact World.cell?_of_block (by rw [add_block]; exact hW.block _ hxlt)
                  · rw [← Q0.out]; exact World.cell?_of_block ((hW.block b6 hb6).trans (BQ.out.block b6 HB6.out))
                have HG := Lib.hid hkk
                have hnq : ∀ W, (binOp .neq 44 (.agg (bv Y).toArray) (.agg (bv X).toArray)).run Tryd.prog W = .ok (.bool (decide (Y ≠ X))) W := fun W => id_neq W hY32 H32.out
                obtain ⟨tt, htt⟩ : ∃ tt, decide (Y ≠ X) = tt := ⟨_, rfl⟩
                rw [htt] at hnq
                have HTT := Lib.hid htt
                clear hd0 e1 e2 hdl hxlt hSq hY hY32 hkk htt hbww hSx
                go_upto_region 39 with fail
                go_cut [145] (fun s145 wx => s145 = .bool tt ∧ Hid (Below wq.heap.size wq wx))
                case first =>
                  refine wp_region_held_drew (S := (fun W => W.cell? (xa.add p2) = some (.slice da dl dc) ∧ W.cell? ⟨b6, 0, none⟩ = some (.slice (some x0) m u0c) ∧ (loadCellsFrom (x0.add (i * n32)) 0 n32 #[]).run Tryd.prog W = .ok (bv X).toArray W)) (by kernel_rfl) (by exact HG.out _ (drewBelow wq)) (fun hHeld => ?_)
                  have BD0 : Hid (Below wq.heap.size wq wq.drew) := Lib.hid (drewBelow wq)
                  refine wpAnyH_take (i := 0) (oi := ⟨_, _, _, _, _, _⟩) (v := ?_) rfl (by kernel_rfl) (by kernel_rfl) (by kernel_rfl) (fun _ _ _ h => h) (Or.inl ⟨by rfl, ?_⟩) (by assumption) ?_
                  rotate_left
                  · intro w hSw; (try dsimp only at hSw); first | (go_simp; done) | (go_simp; with_reducible rfl)
                  try simp only [Act.put, List.setIfInBounds_toArray, List.set_cons_zero, List.set_cons_succ]
                  refine wpAnyH_take (i := 1) (oi := ⟨_, _, _, _, _, _⟩) (v := ?_) rfl (by kernel_rfl) (by kernel_rfl) (by kernel_rfl) (fun _ _ _ h => h) (Or.inl ⟨by rfl, ?_⟩) (by assumption) ?_
                  rotate_left
                  · intro w hSw; (try dsimp only at hSw); first | (go_simp; done) | (go_simp; with_reducible rfl)
                  try simp only [Act.put, List.setIfInBounds_toArray, List.set_cons_zero, List.set_cons_succ]
                  refine wpAnyH_take (i := 2) (oi := ⟨_, _, _, _, _, _⟩) (v := ?_) rfl (by kernel_rfl) (by kernel_rfl) (by kernel_rfl) (fun _ _ _ h => h) (Or.inl ⟨by rfl, ?_⟩) (by assumption) ?_
                  rotate_left
                  · intro w hSw; (try dsimp only at hSw); first | (go_simp; done) | (go_simp; with_reducible rfl)
                  try simp only [Act.put, List.setIfInBounds_toArray, List.set_cons_zero, List.set_cons_succ]
                  refine wpAnyH_take (i := 3) (oi := ⟨_, _, _, _, _, _⟩) (v := ?_) rfl (by kernel_rfl) (by kernel_rfl) (by kernel_rfl) (fun _ _ _ h => h) (Or.inl ⟨by rfl, ?_⟩) (by assumption) ?_
                  rotate_left
                  · intro w hSw; (try dsimp only at hSw); first | (go_simp; done) | (go_simp; with_reducible rfl)
                  try simp only [Act.put, List.setIfInBounds_toArray, List.set_cons_zero, List.set_cons_succ]
                  refine wpAnyH_take (i := 4) (oi := ⟨_, _, _, _, _, _⟩) (v := ?_) rfl (by kernel_rfl) (by kernel_rfl) (by kernel_rfl) (fun _ _ _ h => h) (Or.inl ⟨by rfl, ?_⟩) (by assumption) ?_
                  rotate_left
                  · intro w hSw; (try dsimp only at hSw); first | (go_simp; done) | (go_simp; with_reducible rfl)
                  try simp only [Act.put, List.setIfInBounds_toArray, List.set_cons_zero, List.set_cons_succ]
                  refine wpAnyH_take (i := 5) (oi := ⟨_, _, _, _, _, _⟩) (v := ?_) rfl (by kernel_rfl) (by kernel_rfl) (by kernel_rfl) (fun _ _ _ h => h) (Or.inl ⟨by rfl, ?_⟩) (by assumption) ?_
                  rotate_left
                  · intro w hSw; (try dsimp only at hSw); first | (go_simp; done) | (go_simp; with_reducible rfl)
                  try simp only [Act.put, List.setIfInBounds_toArray, List.set_cons_zero, List.set_cons_succ]
                  refine wpAnyH_take (i := 6) (oi := ⟨_, _, _, _, _, _⟩) (v := ?_) rfl (by kernel_rfl) (by kernel_rfl) (by kernel_rfl) (fun _ _ _ h => h) (Or.inl ⟨by rfl, ?_⟩) (by assumption) ?_
                  rotate_left
                  · intro w hSw; (try dsimp only at hSw); first | (go_simp; done) | (go_simp; with_reducible rfl)
                  try simp only [Act.put, List.setIfInBounds_toArray, List.set_cons_zero, List.set_cons_succ]
                  refine wpAnyH_take (i := 7) (oi := ⟨_, _, _, _, _, _⟩) (v := ?_) rfl (by kernel_rfl) (by kernel_rfl) (by kernel_rfl) (fun _ _ _ h => h) (Or.inl ⟨by rfl, ?_⟩) (by assumption) ?_
                  rotate_left
                  · intro w hSw; (try dsimp only at hSw); first | (go_simp; done) | (go_simp; with_reducible rfl)
                  try simp only [Act.put, List.setIfInBounds_toArray, List.set_cons_zero, List.set_cons_succ]
                  refine wpAnyH_take (i := 8) (oi := ⟨_, _, _, _, _, _⟩) (v := ?_) rfl (by kernel_rfl) (by kernel_rfl) (by kernel_rfl) (fun _ _ _ h => h) (Or.inl ⟨by rfl, ?_⟩) (by assumption) ?_
                  rotate_left
                  · intro w hSw; (try dsimp only at hSw); first | (go_simp; done) | (go_simp; with_reducible rfl)
                  try simp only [Act.put, List.setIfInBounds_toArray, List.set_cons_zero, List.set_cons_succ]
                  refine wpAnyH_take (i := 11) (oi := ⟨_, _, _, _, _, _⟩) (v := ?_) rfl (by kernel_rfl) (by kernel_rfl) (by kernel_rfl) (fun _ _ _ h => h) (Or.inl ⟨by rfl, ?_⟩) (by assumption) ?_
                  rotate_left
                  · intro w hSw; (try dsimp only at hSw); first | (go_simp; done) | (go_simp; with_reducible rfl)
                  try simp only [Act.put, List.setIfInBounds_toArray, List.set_cons_zero, List.set_cons_succ]
                  refine wpAnyH_take (i := 12) (oi := ⟨_, _, _, _, _, _⟩) (v := ?_) rfl (by kernel_rfl) (by kernel_rfl) (by kernel_rfl) (fun _ _ _ h => h) (Or.inl ⟨by rfl, ?_⟩) (by assumption) ?_
                  rotate_left
                  · intro w hSw; (try dsimp only at hSw); first | (go_simp; done) | (go_simp; with_reducible rfl)
                  try simp only [Act.put, List.setIfInBounds_toArray, List.set_cons_zero, List.set_cons_succ]
                  refine wpAnyH_take (i := 13) (oi := ⟨_, _, _, _, _, _⟩) (v := ?_) rfl (by kernel_rfl) (by kernel_rfl) (by kernel_rfl) (fun _ _ _ h => h) (Or.inl ⟨by rfl, ?_⟩) (by assumption) ?_
                  rotate_left
                  · intro w hSw; (try dsimp only at hSw); first | (go_simp; done) | (go_simp; with_reducible rfl)
                  try simp only [Act.put, List.setIfInBounds_toArray, List.set_cons_zero, List.set_cons_succ]
                  refine wpAnyH_take (i := 14) (oi := ⟨_, _, _, _, _, _⟩) (v := ?_) rfl (by kernel_rfl) (by kernel_rfl) (by kernel_rfl) (fun _ _ _ h => h) (Or.inl ⟨by rfl, ?_⟩) (by assumption) ?_
                  rotate_left
                  · intro w hSw; (try dsimp only at hSw); first | (go_simp; done) | (go_simp; with_reducible rfl)
                  try simp only [Act.put, List.setIfInBounds_toArray, List.set_cons_zero, List.set_cons_succ]
                  refine wpAnyH_take (i := 15) (oi := ⟨_, _, _, _, _, _⟩) (v := ?_) rfl (by kernel_rfl) (by kernel_rfl) (by kernel_rfl) (fun _ _ _ h => h) (Or.inl ⟨by rfl, ?_⟩) (by assumption) ?_
                  rotate_left
                  · intro w hSw; (try dsimp only at hSw); first | (go_simp; done) | (go_simp; with_reducible rfl)
                  try simp only [Act.put, List.setIfInBounds_toArray, List.set_cons_zero, List.set_cons_succ]
                  refine wpAnyH_ready (rs := [9]) (by kernel_rfl) (by simp) ?_
                  refine AllReadyH.cons (o := ⟨_, _, _, _, _, _⟩) rfl (fun K hK => ?_) AllReadyH.nil
                  go_simp
                  refine any_stepC (fun wn1 hN => ?_)
                  have BN1 : Hid (Below wq.heap.size wq wn1) := Lib.hid (by rw [hN]; exact BD0.out.alloc (Nat.le_refl _) _)
                  have R1 : Hid (ChunksC (fun q => S q ∨ q = wq.heap.size) wn1 (.slice (some ⟨wq.heap.size, 0, none⟩) 1 1) [d]) := Lib.hid (by rw [hN]; exact HCH.out)
                  have Z1 : Hid (wn1.heap.size = wq.heap.size + 1) := Lib.hid (by rw [hN]; show (wq.alloc _).heap.size = _; simp)
                  clear hN BD0
                  try go_wp2_with fail
                  refine hK.out _ _ (by exact HG.out _ (Hid.out (by assumption))) (fun hHeld => ?_)
                  clear hK K
                  try simp only [Act.put, List.setIfInBounds_toArray, List.set_cons_zero, List.set_cons_succ]
                  refine wpAnyH_ready (rs := [10]) (by kernel_rfl) (by simp) ?_
                  refine AllReadyH.cons (o := ⟨_, _, _, _, _, _⟩) rfl (fun K hK => ?_) AllReadyH.nil
                  go_simp
                  refine (sum_any _ _ [d] wn1 (fun q hq => by rw [Z1.out]; rcases hq with hq | hq <;> first | (have := HSQ.out q hq; omega) | omega) R1.out (by rw [HFD.out]; have := HDM.out; omega) (by simp) (HEV.out _ BN1.out)).mono ?_
                  rintro e wn2 ⟨rfl, hbs⟩
                  rw [HFD.out, HYS.out]
                  have BN2 : Hid (Below wq.heap.size wq wn2) := Lib.hid (BN1.out.trans (hbs.mono BN1.out.size))
                  clear hbs R1
                  try go_wp2_with fail
                  refine hK.out _ _ (by exact HG.out _ (Hid.out (by assumption))) (fun hHeld => ?_)
                  clear hK K
                  try simp only [Act.put, List.setIfInBounds_toArray, List.set_cons_zero, List.set_cons_succ]
                  refine wpAnyH_take (i := 16) (oi := ⟨_, _, _, _, _, _⟩) (v := ?_) rfl (by kernel_rfl) (by kernel_rfl) (by kernel_rfl) (fun _ _ _ h => h) (Or.inl ⟨by rfl, ?_⟩) (by assumption) ?_
                  rotate_left
                  · intro w hSw; (try dsimp only at hSw); first | (go_simp; done) | (go_simp; with_reducible rfl)
                  try simp only [Act.put, List.setIfInBounds_toArray, List.set_cons_zero, List.set_cons_succ]
                  refine wpAnyH_take (i := 17) (oi := ⟨_, _, _, _, _, _⟩) (v := ?_) rfl (by kernel_rfl) (by kernel_rfl) (by kernel_rfl) (fun _ _ _ h => h) (Or.inl ⟨by rfl, ?_⟩) (by assumption) ?_
                  rotate_left
                  · intro w hSw; (try dsimp only at hSw); first | (go_simp; done) | (go_simp; with_reducible rfl)
                  try simp only [Act.put, List.setIfInBounds_toArray, List.set_cons_zero, List.set_cons_succ]
                  refine wpAnyH_done (by kernel_rfl) ?_ _
                  clear hHeld
                  go_wp2_with fail
                  go_meet
                  exact ⟨rfl, BN2⟩
                case rest =>
                  obtain ⟨rfl, B5⟩ := hcut
                  have BC := Lib.hid (BQ.out.trans (B5.out.mono BQ.out.size))
                  cases tt with
                  | true =>
                    have hne : Y ≠ X := of_decide_eq_true HTT.out
                    have HNX := Lib.hid (sub_skip HSB.out HXI.out HMD.out hne)
                    clear hne
                    go_wp2_with fail
                    go_roundw
                    case rel => exact ⟨p2 + 1, by omega, by go_num, HNX, BC.out⟩
                    case measure => simp only [intOf]; omega
                  | false =>
                    go_wp2_with fail
                    go_roundw
                    case rel => exact ⟨i + 1, p2, by omega, by omega, by go_num, rfl, Lib.hid ⟨sub_next HSB.out, fun _ => hpn⟩, BC.out⟩
                    case measure => simp only [intOf]; omega
            · have hdi : decide ((i : Int) < (m : Int)) = false := decide_eq_false (by omega)
              have hdi2 : decide (i < m) = false := decide_eq_false him
              obtain rfl : i = m := by omega
              have q2 : wi.cell? ⟨b6, 0, none⟩ = some (.slice u0a i u0c) := by rw [← Q0.out]; exact World.cell?_of_block (BWI.out.block b6 HB6.out)
              have BE := Lib.hid (BK.out.trans (BWI.out.mono BK.out.size))
              by_cases hpn : p < n
              · have hdp : decide ((p : Int) < (n : Int)) = true := decide_eq_true (by omega)
                have hdp2 : decide (p < n) = true := decide_eq_true hpn
                go_wp2_with fail
                go_ret
                exact ⟨rfl, BE.out⟩
              · have hdp : decide ((p : Int) < (n : Int)) = false := decide_eq_false (by omega)
                have hdp2 : decide (p < n) = false := decide_eq_false hpn
                have hi0 : i = 0 := by
                  by_cases h : 0 < i
                  · exact absurd (HR.out.2 h) hpn
                  · omega
                have hz : ((i : Int) == 0) = true := by rw [hi0]; rfl
                clear hi0
                go_wp2_with fail
                go_ret
                exact ⟨rfl, BE.out⟩
end Go.Proofs.YtgknihcpmpfocaaDoor
