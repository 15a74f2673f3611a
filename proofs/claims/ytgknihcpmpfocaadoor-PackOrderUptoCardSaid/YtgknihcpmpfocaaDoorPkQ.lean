/- The walk of Get. -/
import Derived.Test.YtgknihcpmpfocaaDoorPkP
import Derived.Test.YtgknihcpmpfocaaDoorShaR
import Derived.Test.YtgknihcpmpfocaaDoorShaLP
import Derived.Deep.DeepCutAuto
namespace Go.Proofs.YtgknihcpmpfocaaDoor
open Go.RowKit Go.Maps
attribute [local simp high] id_size id_zero

/-- One chunk in a slice made for it. -/
theorem chunk_lit {S : Nat → Prop} {w : World} {v : Value} {l : List UInt8} (h : BytesC S w v l) (hS : ∀ k, S k → k < w.heap.size) : ChunksC (fun k => S k ∨ k = w.heap.size) (w.alloc (.cells #[v] 22)).drew (.slice (some ⟨w.heap.size, 0, none⟩) 1 1) [l] := by
  refine Or.inr ⟨_, 1, rfl, Nat.le_refl _, by unfold maxLen; omega, Or.inr (Or.inr rfl), fun j u hj => ?_⟩
  cases j with
  | succ j => simp at hj
  | zero =>
    simp at hj
    subst hj
    refine ⟨v, ?_, h.kept (fun k hk => ⟨Or.inl hk, Below.heap_alloc w _ k (hS k hk)⟩)⟩
    rw [Addr.add_mid, Nat.zero_add, cell_of_row (w.alloc (.cells #[v] 22)).drew _ _ _ _ _ (new_five w #[v] 22)]
    rfl
def GetP (w : World) (o : Option (List UInt8)) (e : Ending) (w' : World) : Prop :=
  Below w.heap.size w w' ∧ match o with
    | none => e = .returned (.tuple #[.slice none 0 0, .int .i64 4])
    | some r => ∃ v, e = .returned (.tuple #[v, .int .i64 0]) ∧ Own w' w.heap.size v r
theorem drewBelow (w : World) : Below w.heap.size w w.drew := ⟨rfl, rfl, rfl, Nat.le_refl _, fun _ _ => rfl⟩
set_option maxRecDepth 100000 in
set_option maxHeartbeats 4000000 in
theorem get_any {w0 w : World} {F T : Nat → Prop} {bp bf : Nat} {s : Fs} {x : Nm} {all : List (List UInt8)} (g : PkG w0 F T w bp bf s x all) (hE : Env w) (X : List UInt8) (hX : X.length = 32) :
    Calls Tryd.prog 16 #[.pointer (some ⟨bp, 0, none⟩), .agg (bv X).toArray] w (GetP w (firstR all X)) := by
  obtain ⟨bm, n, D, vi, h, hn, hT⟩ := g.pk
  have hlt := h.lt
  have hb1 := (Below.refl w.heap.size w).alloc (Nat.le_refl _) (.cells (bv X).toArray 44)
  have h1 := h.kept (w' := w.alloc (.cells (bv X).toArray 44)) (fun k hk => Below.heap_alloc _ _ _ (hlt k hk).2)
  have i1 : IDAt (w.alloc (.cells (bv X).toArray 44)) w.heap.size X := ⟨hX, new_five w _ _⟩
  have hz1 : (w.alloc (.cells (bv X).toArray 44)).heap.size = w.heap.size + 1 := by simp
  have HB1 := Lib.hid hb1
  have H1 := Lib.hid h1
  have HI := Lib.hid i1
  have zx : (bv X).length = n32 := by rw [bv_len, hX]; rfl
  have HX := Lib.hid hX
  have G := Lib.hid g
  have HE := Lib.hid hE
  obtain ⟨t, ht⟩ : ∃ t, (placeOf all X).isSome = t := ⟨_, rfl⟩
  obtain ⟨p, hp⟩ : ∃ p, (placeOf all X).getD zeroPlace = p := ⟨_, rfl⟩
  have HT := Lib.hid ht
  have HP := Lib.hid hp
  obtain ⟨p1, p2⟩ := p
  obtain ⟨fr, hfr⟩ : ∃ fr, firstR all X = fr := ⟨_, rfl⟩
  rw [hfr]
  have HFR := Lib.hid hfr
  clear hb1 h1 i1 hX h hlt g hT hn hE ht hp hfr
  go_enter Tryd.func16, Tryd.ntmps16
  go_upto_region 1 with fail
  generalize w.alloc (.cells (bv X).toArray 44) = w1 at *
  have hk0 : ∀ W : World, (∀ k, k < w1.heap.size → W.heap[k]? = w1.heap[k]?) → W.cell? ⟨bp, 3, none⟩ = some (.map (some bm)) ∧ (loadCellsFrom ⟨w.heap.size, 0, none⟩ 0 n32 #[]).run Tryd.prog W = .ok (bv X).toArray W ∧ (Instr.lookup 74 (.map (some bm)) (.agg (bv X).toArray) true).run Tryd.prog W = .ok (.tuple #[placeV ((placeOf all X).getD zeroPlace), .bool (placeOf all X).isSome]) W := fun W hW => by
    have h2 := H1.out.kept (w' := W) (fun k hk => hW k (H1.out.lt k hk).2)
    exact ⟨h2.cell.2.2.2, (HI.out.kept (hW _ (by omega))).cells, h2.map.look HX.out⟩
  rw [HP.out, HT.out] at hk0
  unfold placeV at hk0
  obtain ⟨a1, a2, a3⟩ := hk0 w1.drew (fun _ _ => rfl)
  obtain ⟨b1, b2, b3⟩ := hk0 (w1.alloc (.cells #[.int .i64 0, .int .i64 0] 62)).drew (fun k hk => Below.heap_alloc w1 _ k hk)
  clear hk0
  go_cut [6, 7] (fun s6 s7 wx => s6 = .pointer (some ⟨w.heap.size + 1, 0, none⟩) ∧ s7 = .bool t ∧ wx = (w1.alloc (.cells #[.int .i64 (p1 : Int), .int .i64 (p2 : Int)] 62)).drew)
  case first =>
    go_region
    all_goals
      go_wp2_with fail
      go_meet
      exact ⟨rfl, rfl, rfl⟩
  case rest =>
    obtain ⟨rfl, rfl, rfl⟩ := hcut
    clear a1 a2 a3 b1 b2 b3
    have HW2 := Lib.hid ((HB1.out.alloc (by omega) (.cells #[.int .i64 (p1 : Int), .int .i64 (p2 : Int)] 62)).drew)
    have hnw := new_five w1 #[.int .i64 (p1 : Int), .int .i64 (p2 : Int)] 62
    have hz2 : (w1.alloc (.cells #[.int .i64 (p1 : Int), .int .i64 (p2 : Int)] 62)).drew.heap.size = w1.heap.size + 1 := by show (w1.alloc _).heap.size = _; simp
    have HN2 : Hid ((w1.alloc (.cells #[.int .i64 (p1 : Int), .int .i64 (p2 : Int)] 62)).drew.heap[w.heap.size + 1]? = some (.cells #[.int .i64 (p1 : Int), .int .i64 (p2 : Int)] 62 (0, 0))) := Lib.hid (by rw [← hz1]; exact hnw)
    have HI2 := Lib.hid (HI.out.kept (w' := (w1.alloc (.cells #[.int .i64 (p1 : Int), .int .i64 (p2 : Int)] 62)).drew) (Below.heap_alloc w1 _ _ (by omega)))
    clear hnw
    generalize (w1.alloc (.cells #[.int .i64 (p1 : Int), .int .i64 (p2 : Int)] 62)).drew = w2 at *
    cases t with
    | false =>
      go_wp2_with fail
      go_ret2
      refine ⟨HW2.out, ?_⟩
      have h1 := placeOf_iff (all := all) (x := X)
      rw [HT.out, HFR.out] at h1
      cases fr with
      | none => rfl
      | some r => cases h1
    | true =>
      obtain ⟨r, hpl⟩ : ∃ r, placeOf all X = some (p1, p2) ∧ fr = some r ∧ p2 = p1 + r.length ∧ p2 ≤ (framesL all).length ∧ ((framesL all).drop p1).take r.length = r ∧ sumN r = X ∧ 12 ≤ p1 := by
        have h1 := HT.out
        have h2 := HP.out
        cases hq : placeOf all X with
        | none => rw [hq] at h1; cases h1
        | some q =>
          rw [hq] at h2
          have h3 : q = (p1, p2) := h2
          subst h3
          obtain ⟨r, k1, k2, k3, k4, k5⟩ := placeOf_some hq
          exact ⟨r, rfl, by rw [← HFR.out]; exact k1, k2, k3, k4, (firstR_mem k1).2, k5⟩
      obtain ⟨hpl1, rfl, hp2, hpl4, hpl5, hpl6, hpl7⟩ := hpl
      have H12 := Lib.hid hpl7
      have HL := Lib.hid hpl4
      have HCUT := Lib.hid hpl5
      have HSUM := Lib.hid hpl6
      have HP2 := Lib.hid hp2
      clear hpl1 hpl4 hpl5 hpl6 hpl7 hp2
      have G2 := Lib.hid (G.out.beside HW2.out)
      have G2d := G2.out.beside (drewBelow w2)
      have hc := g_read G2d.fs x G2d.xl
      rw [G2d.read] at hc
      have HC := Lib.hid hc
      have HFL := Lib.hid (readS_len G2d.fs.ok G2d.read)
      obtain ⟨bm', n', D', vi', h', _⟩ := G2d.pk
      obtain ⟨c0, c1, _, _⟩ := h'.cell
      clear hc G2d h'
      go_upto_region 4 with fail
      go_cut [8, 9] (fun s8 s9 wx => ∃ (a : Option Addr) (c : Nat), s8 = .slice a (framesL all).length c ∧ s9 = .int .i64 0 ∧ Hid (Own wx w2.heap.size (.slice a (framesL all).length c) (framesL all)) ∧ Hid (Below w2.drew.heap.size w2.drew wx))
      case first =>
        go_region_with (go_at_call 19; refine HC.out.mono ?_; rintro e w3 ⟨v, rfl, h1, h2⟩; obtain ⟨a, c, rfl⟩ := own_slice h1; have H3 := Lib.hid h1; have HB3 := Lib.hid h2; clear h1 h2)
        all_goals
          go_wp2_with fail
          go_meet
          exact ⟨a, c, rfl, rfl, H3, HB3⟩
      case rest =>
        obtain ⟨a, c, rfl, rfl, H3, HB3⟩ := hcut
        obtain ⟨w3, hw3⟩ : ∃ w3, w3 = wc := ⟨_, rfl⟩
        subst hw3
        clear c0 c1
        have hb3 : Below w2.heap.size w2 w3 := (drewBelow w2).trans HB3.out
        have W3 := Lib.hid hb3
        have hsz3 := hb3.size
        have HN3 := Lib.hid ((hb3.block _ (by omega)).trans HN2.out)
        have HI3 := Lib.hid (HI2.out.kept (hb3.block _ (by omega)))
        obtain ⟨b, hb⟩ : ∃ b, framesL all = b := ⟨_, rfl⟩
        have HB := Lib.hid hb
        have hbl := HL.out
        have hfl := HFL.out
        have hcu := HCUT.out
        have h3 := H3.out
        rw [hb] at hbl hfl hcu h3
        rw [hb]
        obtain ⟨m, hm⟩ : ∃ m, b.length = m := ⟨_, rfl⟩
        have HM := Lib.hid hm
        have hc3 := own_c h3
        rw [hm] at hbl hfl h3 hc3
        rw [hm]
        have hp12 := HP2.out
        have hgt : decide ((p2 : Int) > (m : Int)) = false := decide_eq_false (by omega)
        have hgt2 : decide (m < p2) = false := decide_eq_false (by omega)
        obtain ⟨k7, hk7⟩ : ∃ k7, r.length = k7 := ⟨_, rfl⟩
        have hSL : ∃ (a7 : Addr) (c7 : Nat), (∀ W, (Instr.sliceAt 22 (.slice a m c) (some (.int .i64 (p1 : Int))) (some (.int .i64 (p2 : Int))) none).run Tryd.prog W = .ok (.slice (some a7) k7 c7) W) ∧ BytesC (fun k => w2.heap.size ≤ k ∧ k < w3.heap.size) w3 (.slice (some a7) k7 c7) r := by
          rcases hc3 with ⟨_, e⟩ | ⟨aa, cc, e, e2⟩
          · have := H12.out
            rw [e] at hm
            simp at hm
            omega
          · injection e with e3 e4 e5
            subst e3 e4 e5
            obtain ⟨a', c', q1, q2⟩ := sub_run (S := fun k => w2.heap.size ≤ k ∧ k < w3.heap.size) (w := w3) (aa := aa) (ca := c) (b := b) (Or.inr ⟨aa, c, rfl, e2⟩) p1 p2 (by omega) hbl
            rw [show p2 - p1 = k7 by omega] at q1 q2
            rw [← hk7, hcu] at q2
            rw [← hk7] at q1 ⊢
            exact ⟨a', c', q1, q2⟩
        obtain ⟨a7, c7, hv7, hb7⟩ := hSL
        have H7 := Lib.hid hb7
        have hrl : r.length ≤ 4194304 := by omega
        have HRL := Lib.hid hrl
        have HK7 := Lib.hid hk7
        have HSM := Lib.hid (sum_any (fun k => (w2.heap.size ≤ k ∧ k < w3.heap.size) ∨ k = w3.heap.size) _ [r] (w3.alloc (.cells #[.slice (some a7) k7 c7] 22)).drew (fun k hk => by show k < (w3.alloc _).heap.size; simp; omega) (chunk_lit hb7 (fun k hk => hk.2)) (by simp; omega) (by simp) ((HE.out.on HW2.out).on (hb3.trans (((Below.refl w3.heap.size w3).alloc (Nat.le_refl _) (.cells #[.slice (some a7) k7 c7] 22)).drew.mono (by omega)))))
        have hfl1 : [r].flatten = r := by simp
        rw [hfl1, HSUM.out] at HSM
        have hneq : ∀ W, (binOp .neq 44 (.agg (bv X).toArray) (.agg (bv X).toArray)).run Tryd.prog W = .ok (.bool false) W := fun W => by have h := id_neq W HX.out HX.out; simpa using h
        have hkk : ∀ W : World, (∀ k, k < w3.heap.size → W.heap[k]? = w3.heap[k]?) → W.cell? ⟨w.heap.size + 1, 0, none⟩ = some (.int .i64 (p1 : Int)) ∧ W.cell? ⟨w.heap.size + 1, 1, none⟩ = some (.int .i64 (p2 : Int)) ∧ (loadCellsFrom ⟨w.heap.size, 0, none⟩ 0 n32 #[]).run Tryd.prog W = .ok (bv X).toArray W := fun W hW =>
          ⟨(cell_of_row W _ _ _ _ _ ((hW _ (by omega)).trans HN3.out)).trans rfl, (cell_of_row W _ _ _ _ _ ((hW _ (by omega)).trans HN3.out)).trans rfl, (HI3.out.kept (hW _ (by omega))).cells⟩
        obtain ⟨a1, a2, a3⟩ := hkk w3.drew (fun _ _ => rfl)
        obtain ⟨b1, b2, b3⟩ := hkk (w3.alloc (.cells #[.slice (some a7) k7 c7] 22)).drew (fun k hk => Below.heap_alloc w3 _ k hk)
        have HK := Lib.hid (fun (W : World) (hW : Below (w3.alloc (.cells #[.slice (some a7) k7 c7] 22)).drew.heap.size (w3.alloc (.cells #[.slice (some a7) k7 c7] 22)).drew W) => hkk W (fun k hk => (hW.block k (by show k < (w3.alloc _).heap.size; simp; omega)).trans (Below.heap_alloc w3 _ k hk)))
        have HZ3 : Hid (w2.heap.size ≤ w3.heap.size) := Lib.hid hsz3
        clear hb3 hcu hb7 hc3 hb hm hp12 hfl1 hkk hbl hfl h3 hsz3 hrl hk7
        go_upto_region 7 with fail
        go_cut [52] (fun s52 wx => s52 = .bool false ∧ Hid (Below (w3.alloc (.cells #[.slice (some a7) k7 c7] 22)).drew.heap.size (w3.alloc (.cells #[.slice (some a7) k7 c7] 22)).drew wx))
        case first =>
          go_region_with (go_at_call 20; refine HSM.out.mono ?_; rintro e w5 ⟨rfl, hb5⟩; obtain ⟨k1, k2, k3⟩ := HK.out w5 hb5; have B5 := Lib.hid hb5; clear hb5)
          all_goals
            go_wp2_with fail
            go_meet
            exact ⟨rfl, B5⟩
        case rest =>
          obtain ⟨rfl, B5⟩ := hcut
          obtain ⟨k1, k2, k3⟩ := HK.out wc B5.out
          have hz5 := B5.out.size
          have hza : (w3.alloc (.cells #[.slice (some a7) k7 c7] 22)).drew.heap.size = w3.heap.size + 1 := by show (w3.alloc _).heap.size = _; simp
          have hkeep : ∀ k, k < w3.heap.size → wc.heap[k]? = w3.heap[k]? := fun k hk => (B5.out.block k (by omega)).trans (Below.heap_alloc w3 _ k hk)
          have BW : Hid (Below w.heap.size w wc) := Lib.hid (HW2.out.trans ((W3.out.trans ((((Below.refl w3.heap.size w3).alloc (Nat.le_refl _) (.cells #[.slice (some a7) k7 c7] 22)).drew.trans (B5.out.mono (by omega))).mono (by have := HZ3.out; omega))).mono (by omega)))
          have HCL := Lib.hid (clone_any (fun k => w2.heap.size ≤ k ∧ k < w3.heap.size) _ r wc HRL.out (fun k hk => by omega) (H7.out.kept (fun k hk => ⟨hk, hkeep k hk.2⟩)))
          have HWC : Hid (w.heap.size ≤ wc.heap.size) := Lib.hid BW.out.size
          clear a1 a2 a3 b1 b2 b3 k3 hkeep hza hz5
          go_wp2_with fail
          refine HCL.out.mono ?_
          rintro e w8 ⟨v8, rfl, h8, hb8⟩
          have H8 := Lib.hid h8
          have B8 := Lib.hid hb8
          clear h8 hb8
          go_wp2_with fail
          go_ret2
          exact ⟨BW.out.trans (B8.out.mono HWC.out), v8, rfl, own_base H8.out HWC.out⟩
end Go.Proofs.YtgknihcpmpfocaaDoor
