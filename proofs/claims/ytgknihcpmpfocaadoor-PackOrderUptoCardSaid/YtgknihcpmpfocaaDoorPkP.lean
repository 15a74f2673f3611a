/- The walks of IDs and Create. -/
import Derived.Test.YtgknihcpmpfocaaDoorPkO
import Derived.Test.YtgknihcpmpfocaaDoorShaAF
namespace Go.Proofs.YtgknihcpmpfocaaDoor
open Go.RowKit Go.Maps
attribute [local simp high] id_size id_zero

theorem own_ids {w : World} {B : Nat} {v : Value} {I : List (List UInt8)} (h : w.ownsRow B 44 32 v I.length (idsV I)) (hI : ∀ x ∈ I, x.length = 32) : IDsC (fun k => B ≤ k ∧ k < w.heap.size) w v I := by
  rcases h.2 with ⟨h1, h2⟩ | ⟨g, cap, cur, h1, h2, h3, h4, h5, h6, h7⟩
  · exact Or.inl ⟨List.length_eq_zero_iff.1 h2, none, 0, by rw [h1]⟩
  · refine Or.inr ⟨⟨g, 0, none⟩, cap, h1, ⟨h2, (Array.getElem?_eq_some_iff.1 h3).1⟩, h4, fun i hi => ⟨hI _ (List.getElem_mem hi), fun j hj => ?_⟩⟩
    have e : ((⟨g, 0, none⟩ : Addr).add (i * n32)).add j = ⟨g, i * 32 + j, none⟩ := by rw [add_pos, add_pos, Nat.zero_add]; rfl
    rw [e]
    have hj32 : j < 32 := by rw [← hI _ (List.getElem_mem hi)]; exact hj
    have hc : (I.map bv)[i]? = some (bv I[i]) := by simp [List.getElem?_eq_getElem hi]
    have hf := flatten_at (sz := 32) (I.map bv) i (bv I[i]) (fun c hc => by
      obtain ⟨y, hy, rfl⟩ := List.mem_map.1 hc
      rw [bv_len, hI y hy]) hc j hj32
    have he : (bv I[i])[j]? = some (.int .u8 (I[i][j].toNat : Nat)) := by
      rw [← List.getElem?_toArray, bv_at hj]
    have hx : (idsV I)[i * 32 + j]? = some (.int .u8 (I[i][j].toNat : Nat)) := hf.trans he
    rw [cell_of_row w g _ cur _ _ h3]
    rw [← h7, List.getElem?_take] at hx
    split at hx
    · simpa using hx
    · cases hx
theorem idsV_one (I : List (List UInt8)) : ∀ u ∈ idsV I, u.oneCell' = true := by
  intro u hu
  unfold idsV at hu
  obtain ⟨l, hl, h2⟩ := List.mem_flatten.1 hu
  obtain ⟨y, _, rfl⟩ := List.mem_map.1 hl
  exact bv_one y u h2
theorem ids_eql_nil (w : World) (a : Option Addr) (l c : Nat) : (binOp .eql 40 (.slice a l c) (.slice none 0 0)).run Tryd.prog w = .ok (.bool a.isNone) w := by
  have h := run_equal_slice_nil (P := Tryd.prog) (w := w) 40 44 a l c Tryd.underlying40
  simp [binOp, h]
def ClonedI (w : World) (I : List (List UInt8)) (e : Ending) (w' : World) : Prop := ∃ v', e = .returned v' ∧ w'.ownsRow w.heap.size 44 32 v' I.length (idsV I) ∧ Below w.heap.size w w'
theorem ids_empty (w : World) : (w.alloc (.cells #[] 44)).ownsRow w.heap.size 44 32 (.slice (some ⟨w.heap.size, 0, none⟩) 0 0) 0 [] :=
  ⟨rfl, Or.inr ⟨w.heap.size, 0, #[], rfl, Nat.le_refl _, new_five w _ _, Nat.le_refl _, Nat.zero_le _, rfl, rfl⟩⟩
set_option maxRecDepth 100000 in
set_option maxHeartbeats 4000000 in
theorem ids_clone {B : Nat} {w : World} {vi : Value} {I : List (List UInt8)} (h : w.ownsRow B 44 32 vi I.length (idsV I)) (hl : I.length ≤ 1073741824) :
    Calls Tryd.prog 32 #[vi] w (ClonedI w I) := by
  obtain ⟨i0, hi, hz0, hz1, hz2⟩ := info_parts id_info
  have hlt := World.ownsRow.lt h
  have h2 := (own_cells (row_kept h (w' := w.alloc (.cells #[] 44)) (fun k hk => Below.heap_alloc w _ k (hlt k hk).2)) (idsV_one I)).src Tryd.underlying40
  have hq := ids_eql_nil
  rcases h.2 with ⟨rfl, hz⟩ | ⟨g, cap, cur, rfl, _⟩
  · have hI0 : I = [] := List.length_eq_zero_iff.1 hz
    subst hI0
    clear h h2
    go_enter Tryd.func32, Tryd.ntmps32
    go_wp2_with fail
    go_ret
    exact ⟨_, rfl, World.ownsRow_nil _ _ _ _, Below.refl _ _⟩
  · have HB := Lib.hid h2
    have HO := Lib.hid (ids_empty w)
    clear h h2 hlt
    go_enter Tryd.func32, Tryd.ntmps32
    go_wp2_with (at_builtin; refine wpList_own_src _ rfl _ _ 40 40 rfl w.heap.size 44 i0 (.agg (bv zeros).toArray) 32 32 Tryd.underlying40 hi hz0 hz1 hz2 rfl (by decide) _ _ _ rfl HO.out _ _ _ rfl HB.out ?c3 ?c4 ?c5 ?_)
    case c3 => simp; unfold maxLen; omega
    case c4 => simp; omega
    case c5 => simp
    intro v2 w2 hown2 hg2
    have hgr := ((Grew.alloc w (.slice (some ⟨w.heap.size, 0, none⟩) 0 0) _).trans hg2)
    have hbl : Below w.heap.size w w2 := (Below.refl _ w).grown hgr.gb (Nat.le_refl _) (fun k hk => by simp [Value.ownBlock] at hk; omega)
    have HV := Lib.hid hown2
    have HBL := Lib.hid hbl
    clear hgr hbl hown2 hg2
    go_wp2_with fail
    go_ret
    exact ⟨v2, rfl, HV.out, HBL.out⟩
theorem ids_any {B : Nat} {w : World} {bp bf bm n : Nat} {D : DataW Unit} {vi : Value} {x : Nm} {I : List (List UInt8)} {pl : List UInt8 → Option (Nat × Nat)} (h : PackAt B w bp bf bm n D vi x I pl) (hl : I.length ≤ 1073741824) :
    Calls Tryd.prog 13 #[.pointer (some ⟨bp, 0, none⟩)] w (ClonedI w I) := by
  obtain ⟨c0, c1, c2, c3⟩ := h.cell
  have HC := Lib.hid (ids_clone h.ids hl)
  clear h
  go_enter Tryd.func13, Tryd.ntmps13
  go_wp2_with fail
  refine HC.out.mono ?_
  rintro e w' ⟨v, rfl, h1, h2⟩
  have H1 := Lib.hid h1
  have H2 := Lib.hid h2
  clear h1 h2
  go_wp2_with fail
  go_ret
  exact ⟨v, rfl, H1.out, H2.out⟩
/-- What Create answers. -/
def CreateP (w0 : World) (F : Nat → Prop) (w : World) (bf : Nat) (s : Fs) (x : Nm) (e : Ending) (w' : World) : Prop :=
  w.heap.size ≤ w'.heap.size ∧ (∀ k, F k → w'.heap[k]? = w.heap[k]?) ∧
  (((createS s x).2 ≠ 0 ∧ e = .returned (.tuple #[.pointer none, .int .i64 (createS s x).2]) ∧ FsG w0 F w' bf s) ∨
   ((createS s x).2 = 0 ∧ ∃ (bp : Nat) (T : Nat → Prop), e = .returned (.tuple #[.pointer (some ⟨bp, 0, none⟩), .int .i64 0]) ∧ PkG w0 (fun k => F k ∨ T k) T w' bp bf (createS s x).1 x [] ∧ ∀ k, T k → w.heap.size ≤ k))
set_option maxRecDepth 100000 in
set_option maxHeartbeats 4000000 in
theorem pcreate_any {w0 w : World} {F : Nat → Prop} {bf : Nat} {s : Fs} (g : FsG w0 F w bf s) (hs : s.steps ≤ 16777214) (hE : PEnv w0) (x : Nm) (hx : x.length ≤ 4194304) :
    Calls Tryd.prog 11 #[.pointer (some ⟨bf, 0, none⟩), .string ⟨x.toArray⟩] w (CreateP w0 F w bf s x) := by
  have HC := Lib.hid (g_create g hs hE x hx)
  have HR := Lib.hid (createS_read g.ok x)
  have HG := Lib.hid g
  have HX := Lib.hid hx
  clear g hx
  go_enter Tryd.func11, Tryd.ntmps11
  go_wp2_with fail
  refine HC.out.mono ?_
  rintro e w1 ⟨rfl, h1, h2, h3⟩
  have H1 := Lib.hid h1
  have H2 := Lib.hid h2
  have H3 := Lib.hid h3
  clear h1 h2 h3 HC
  obtain ⟨c, hc⟩ : ∃ c, (createS s x).2 = c := ⟨_, rfl⟩
  have HCC := Lib.hid hc
  rw [hc]
  clear hc
  by_cases hz : c = 0
  · subst hz
    have HE := Lib.hid (empty_any w1 bf x w0.heap.size H1.out.below.size)
    go_wp2_with fail
    refine HE.out.mono ?_
    rintro e w2 ⟨rfl, hsz, hp, hb⟩
    have HB := Lib.hid hb
    have HP := Lib.hid hp
    clear hb hp
    go_wp2_with fail
    go_ret2
    refine ⟨by have := H2.out; omega, fun k hk => (HB.out.block k (H1.out.lt k hk)).trans (H3.out k hk), Or.inr ⟨HCC.out, w1.heap.size + 1, fun k => k = w1.heap.size + 1 ∨ k = w1.heap.size, rfl, ?_, fun k hk => by have := H2.out; rcases hk with rfl | rfl <;> omega⟩⟩
    have hr := HR.out
    rw [HCC.out] at hr
    rcases hr with ⟨_, hr, _⟩ | ⟨hr, _⟩
    · refine ⟨H1.out.more HB.out (fun k hk => ?_), ⟨_, _, _, _, HP.out, Nat.le_refl _, fun k hk => ?_⟩, fun k hk => ⟨Or.inr hk, ?_⟩, hr, HX.out⟩
      · rcases hk with h | h
        · exact Or.inl h
        · exact Or.inr (by rcases h with rfl | rfl <;> omega)
      · rcases hk with rfl | rfl | hk
        · exact Or.inl rfl
        · exact Or.inr rfl
        · simp [Value.ownBlock] at hk
      · have := H1.out.below.size
        rcases hk with rfl | rfl <;> omega
    · exact absurd rfl hr
  · have hcb : (c == 0) = false := by rw [beq_eq_false_iff_ne]; exact hz
    go_wp2_with fail
    go_ret2
    have hr := HR.out
    rw [HCC.out] at hr
    rcases hr with ⟨hr, _⟩ | ⟨_, hr⟩
    · exact absurd hr hz
    · refine ⟨H2.out, H3.out, Or.inl ⟨by rw [HCC.out]; exact hz, by rw [HCC.out]; rfl, ?_⟩⟩
      have h1 := H1.out
      rw [hr] at h1
      exact h1
end Go.Proofs.YtgknihcpmpfocaaDoor
