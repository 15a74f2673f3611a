/- The walk of the laws' plain of parts. -/
import Derived.Test.YtfiogjdjcocbnaaWeavH
import Derived.Test.YtfiogjdjcocbnaaLinT
namespace Go.Proofs.Ytfiogjdjcocbnaa
open Go.RowKit

theorem Try.info100r : (Try.prog.info? 100).map (fun i => (i.zero, i.size, i.bytes)) = some (some (.agg #[.int .i64 0, .slice none 0 0, .slice none 0 0, .slice none 0 0]), 4, 80) := by kernel_rfl
theorem srcQ_one (w : World) (x : Int) (a1 a2 a3 : Option Addr) (n1 c1 n2 c2 n3 c3 : Nat) : Src Try.prog 4 63 (.slice (some ⟨w.heap.size, 0, none⟩) 1 1) 1 [.int .i64 x, .slice a1 n1 c1, .slice a2 n2 c2, .slice a3 n3 c3] (w.alloc (.cells #[.int .i64 x, .slice a1 n1 c1, .slice a2 n2 c2, .slice a3 n3 c3] 100)) :=
  Src.ofSlice _ Try.underlying63 _ 1 1 _ rfl (fun j u hj => by
    rw [add_pos, Nat.zero_add, World.cell?_alloc_mark]; simpa using hj) (fun u hu => by
    simp at hu; rcases hu with rfl | rfl | rfl | rfl <;> rfl)
set_option maxRecDepth 100000 in
set_option maxHeartbeats 8000000 in
theorem wplain_any (T : Nat → Prop) (vh : Value) (hs : List (PartN (List UInt8))) (w : World) (hT : ∀ k, T k → k < w.heap.size) (hh : PartsC T w vh hs) (hhl : hs.length ≤ 4194304) :
    Calls Try.prog 41 #[vh] w fun e w' => ∃ v, e = .returned v ∧ PartsC (fun k => k < w'.heap.size) w' v hs ∧ Below w.heap.size w w' := by
  obtain ⟨j0, hj, hy0, hy1, hy2⟩ := info_parts Try.info100r
  obtain ⟨ba, bc, rfl⟩ := hh.shape
  have HT := Lib.hid hT
  have HH := Lib.hid hh
  have HR := Lib.hid (Below.refl w.heap.size w)
  clear hT hh
  go_enter Try.func41, Try.ntmps41
  go_wp2_with fail
  go_loopw [3, 8] (fun l i wr => ∃ (k : Nat) (css : List (List Value)), k ≤ hs.length ∧ i = .int .i64 k ∧ Hid (OwnR partRel 100 4 (fun _ => True) wr w.heap.size l css (hs.take k)) ∧ Hid (Below w.heap.size w wr)) (fun _ i _ => hs.length - (intOf i).toNat)
  case atStart => exact ⟨0, [], Nat.zero_le _, rfl, Lib.hid (OwnR.nil _ _ _ _ _ _), HR⟩
  case round =>
    obtain ⟨k, css, hk, rfl, hO, hW⟩ := hrel
    obtain ⟨hva, hvc, rfl⟩ := ownR_slice hO.out
    have hsz := hW.out.size
    by_cases hlt : k < hs.length
    · obtain ⟨g, o, rfl, hTg, _, _, hcs⟩ := part_at (HH.out.kept part_keeps (S' := T) (w' := wr) (fun q hq => ⟨hq, hW.out.block q (HT.out q hq)⟩)) (by omega)
      obtain ⟨h, hh⟩ : ∃ h, hs[k]? = some h := ⟨_, List.getElem?_eq_getElem hlt⟩
      have hts : hs.take (k + 1) = hs.take k ++ [h] := by
        rw [List.take_succ_eq_append_getElem hlt]
        rw [List.getElem?_eq_getElem hlt] at hh
        injection hh with hh; rw [hh]
      obtain ⟨a1, c1, a2, c2, a3, c3, e0, e1, e2, e3, r1, r2, r3⟩ := hcs k h hh
      obtain ⟨kd, lb, lo, lt⟩ := h
      simp only at e0 e1 e2 e3 r1 r2 r3
      have HTS := Lib.hid hts
      have hkl : (hs.take k).length ≤ 4194304 := by simp; omega
      have R1 := Lib.hid r1
      have R2 := Lib.hid r2
      have R3 := Lib.hid r3
      generalize hs.take k = ht at *
      have W2 : Hid (Below w.heap.size w (wr.alloc (.cells #[.int .i64 kd, .slice a1 lb.length c1, .slice a2 lo.length c2, .slice a3 lt.length c3] 73))) := Lib.hid (hW.out.alloc hsz _)
      have HBX := Lib.hid (new_five wr #[.int .i64 kd, .slice a1 lb.length c1, .slice a2 lo.length c2, .slice a3 lt.length c3] 73)
      have HK2 : Hid (∀ q, q < wr.heap.size → (wr.alloc (.cells #[.int .i64 kd, .slice a1 lb.length c1, .slice a2 lo.length c2, .slice a3 lt.length c3] 73)).heap[q]? = wr.heap[q]?) := Lib.hid (fun q hq => Below.heap_alloc _ _ _ hq)
      have hlt2 : wr.heap.size < (wr.alloc (.cells #[.int .i64 kd, .slice a1 lb.length c1, .slice a2 lo.length c2, .slice a3 lt.length c3] 73)).heap.size := by simp
      clear hcs hh hts r1 r2 r3
      go_upto_region 5 with fail
      obtain ⟨b0, b1, b2, b3⟩ := box4 HBX.out rfl
      clear e0 e1 e2 e3
      generalize wr.alloc (.cells #[.int .i64 kd, .slice a1 lb.length c1, .slice a2 lo.length c2, .slice a3 lt.length c3] 73) = wp at *
      have OW : Hid (wp.ownsRow w.heap.size 100 4 (.slice hva ht.length hvc) ht.length css.flatten) := Lib.hid (own_below hO.out.own (fun q _ hq => HK2.out q hq))
      go_wp2_with (at_builtin; refine wpList_own_src _ rfl _ _ 63 63 rfl w.heap.size 100 j0 (.agg #[.int .i64 0, .slice none 0 0, .slice none 0 0, .slice none 0 0]) 4 80 Try.underlying63 hj hy0 hy1 hy2 rfl (by decide) _ _ _ rfl (World.ownsRow.alloc OW.out _) _ 1 [.int .i64 kd, .slice a1 lb.length c1, .slice a2 lo.length c2, .slice a3 lt.length c3] rfl (srcQ_one _ _ _ _ _ _ _ _ _ _ _) (by unfold maxLen; omega) (by omega) (by simp; omega) ?_)
      intro v5 w5 hown5 hg5
      have B5 : Hid (Below w.heap.size w w5) := Lib.hid ((W2.out.alloc W2.out.size _).grown hg5.gb (by simp; omega) (fun q hq => (World.ownsRow.lt OW.out q hq).1))
      have KK : ∀ q, T q → ((True ∧ q < (wp.alloc (.cells #[.int .i64 kd, .slice a1 lb.length c1, .slice a2 lo.length c2, .slice a3 lt.length c3] 100)).heap.size ∧ (Value.slice hva ht.length hvc).ownBlock ≠ some q) ∧ (wp.alloc (.cells #[.int .i64 kd, .slice a1 lb.length c1, .slice a2 lo.length c2, .slice a3 lt.length c3] 100)).heap[q]? = wr.heap[q]?) := fun q hq => by
          have h1 := HT.out q hq
          exact ⟨⟨trivial, by simp; omega, fun e => by have := (World.ownsRow.lt hO.out.own q e).1; omega⟩, (Below.heap_alloc _ _ _ (by omega)).trans (HK2.out q (by omega))⟩
      have O5 := Lib.hid (hO.out.push part_keeps (fun q hq _ => (Below.heap_alloc _ _ _ (by omega)).trans (HK2.out q hq)) (by simp; omega) hg5 rfl (fun u hu => by simp at hu; rcases hu with rfl | rfl | rfl | rfl <;> rfl) hown5 (e := ⟨kd, lb, lo, lt⟩) ⟨_, _, _, rfl, R1.out.kept KK, R2.out.kept KK, R3.out.kept KK⟩)
      clear hown5 hg5 b0 b1 b2 b3 KK
      go_wp2_with fail
      go_roundw
      case rel => exact ⟨k + 1, _, by omega, by go_num, by rw [HTS.out]; exact O5, B5⟩
      case measure => simp [intOf]; omega
    · have hkl : hs.take k = hs := List.take_of_length_le (by omega)
      have HQ := Lib.hid hkl
      clear hkl
      go_wp2_with fail
      go_ret
      refine ⟨_, rfl, ?_, hW.out⟩
      have := (hO.out.rows part_keeps).kept part_keeps (S' := fun k => k < wr.heap.size) (w' := wr) (fun q hq => ⟨hq.2, rfl⟩)
      have key : ∀ t, hs.take k = t → PartsC (fun k => k < wr.heap.size) wr (.slice hva (hs.take k).length hvc) t := fun t ht => by subst ht; exact this
      exact key hs HQ.out
end Go.Proofs.Ytfiogjdjcocbnaa
