/- Outcomes in memory: Clean. -/
import Derived.Test.YtjlpdoppnhcjoaaDoorJnF
namespace Go.Proofs.YtjlpdoppnhcjoaaDoor
open Go.RowKit Go.Lib
/-- An outcome, and its text. -/
abbrev OutM := OutN × List UInt8
def noOut : OutN := ⟨[], 0, fun _ => 0, 0, .slice none 0 0, fun _ => false, fun _ _ => 0⟩
theorem outcome_zero (w : World) : (zeroValue 42).run Tryd.prog w = .ok (.agg (rowL n135 (outF noOut)).toArray) w := by rw [Tryd.zeroValue42]; kernel_rfl
attribute [local simp high] files_size outcome_size id_size n135_ne n138_ne n32_ne n34_ne outcome_zero
theorem out_one (o : OutN) (h : o.tv.oneCell' = true) (n : Nat) : OneC n (outF o) := fun k _ => by
  unfold outF
  split
  · rfl
  · split
    · rfl
    · split
      · rfl
      · split
        · rfl
        · split
          · exact h
          · split <;> rfl
def outRel (S : Nat → Prop) (w : World) (m : OutM) (cs : List Value) : Prop := cs = rowL n135 (outF m.1) ∧ BytesC S w m.1.tv m.2
theorem out_keeps : Keeps outRel := fun _ _ _ _ _ _ h hk => ⟨h.1, h.2.kept hk⟩
abbrev OutsC := RowsC outRel n135
theorem tv_one {S : Nat → Prop} {w : World} {v : Value} {l : List UInt8} (h : BytesC S w v l) : v.oneCell' = true := by
  rcases h with ⟨rfl, _⟩ | ⟨a, c, rfl, _⟩ <;> rfl
def noneM : OutM := (noOut, [])
/-- One outcome in memory. -/
theorem OutsC.at {S : Nat → Prop} {w : World} {a : Option Addr} {c : Nat} {l : List OutM} (h : OutsC S w (.slice a l.length c) l) (hn : 0 < l.length) :
    ∃ g o, a = some ⟨g, o, none⟩ ∧ S g ∧ l.length ≤ c ∧ c ≤ 9223372036854775807 ∧ ∀ i, i < l.length → BytesC S w (l.getD i noneM).1.tv (l.getD i noneM).2 ∧ ∀ k, k < 135 → w.cell? ⟨g, o + i * n135 + k, none⟩ = some (outF (l.getD i noneM).1 k) := by
  obtain ⟨g, o, h1, h2, h3, h4, h5⟩ := RowsC.at h hn
  refine ⟨g, o, h1, h2, h3, h4, fun i hi => ?_⟩
  have he : l[i]? = some (l.getD i noneM) := by simp [List.getD, hi]
  obtain ⟨cs, _, ⟨rfl, h7⟩, h8⟩ := h5 i _ he
  refine ⟨h7, fun k hk => ?_⟩
  rw [Nat.add_assoc]
  exact h8 k _ (rowL_at _ (by unfold n135; exact hk))
def clearB (m : OutM) : Bool := m.1.kind == 1 || m.1.kind == 2
set_option maxRecDepth 100000 in
set_option maxHeartbeats 4000000 in
theorem clean_any (S : Nat → Prop) (v : Value) (l : List OutM) (w : World) (hS : ∀ k, S k → k < w.heap.size) (hv : OutsC S w v l) (hl : l.length ≤ 4194304) :
    Calls Tryd.prog 11 #[v] w fun e w' => e = .returned (.bool (l.all clearB)) ∧ Below w.heap.size w w' := by
  obtain ⟨la, lc, rfl⟩ := RowsC.shape hv
  obtain ⟨R, hR⟩ : ∃ R, l.all clearB = R := ⟨_, rfl⟩
  have HR : Hid ((l.drop 0).all clearB = R) := Lib.hid hR
  rw [hR]
  have HV := Lib.hid (fun (W : World) (hb : Below w.heap.size w W) => RowsC.kept out_keeps hv (S' := S) (w' := W) (fun k hk => ⟨hk, hb.block k (hS k hk)⟩))
  clear hv hR hS
  go_enter Tryd.func11, Tryd.ntmps11
  go_wp2_with fail
  go_loopw [7] (fun i wr => ∃ k : Nat, k ≤ l.length ∧ i = .int .i64 (k : Int) ∧ Hid ((l.drop k).all clearB = R) ∧ Hid (Below w.heap.size w wr)) (fun i _ => l.length - (intOf i).toNat)
  case atStart => exact ⟨0, Nat.zero_le _, rfl, HR, Lib.hid (Below.refl _ _)⟩
  case round =>
    obtain ⟨k, hk, rfl, hE2, hB⟩ := hrel
    by_cases hlt : k < l.length
    · obtain ⟨g, o, rfl, _, _, _, hat⟩ := OutsC.at (HV.out wr hB.out) (by omega)
      obtain ⟨hb, hck⟩ := hat k hlt
      have HD : Hid ((((l.getD k noneM).1.kind == 1 || (l.getD k noneM).1.kind == 2) && (l.drop (k + 1)).all clearB) = R) := Lib.hid (by
        rw [← hE2.out, List.drop_eq_getElem_cons hlt, List.all_cons]
        simp [List.getD, hlt, clearB])
      have h1 := out_one _ (tv_one hb) n135
      clear hat hb hE2
      generalize (l.getD k noneM).1 = f at *
      have c1 := load_row wr g (o + k * n135) n135 (outF f) (fun j hj => hck j (by unfold n135 at hj; exact hj))
      have i1 := RF.new wr 42 n135 (outF noOut)
      have c2 := i1.write h1
      have HI := Lib.hid (i1.put (outF f))
      have HW := Lib.hid (below_setRow ((Below.refl wr.heap.size wr).alloc (Nat.le_refl _) (.cells (rowL n135 (outF noOut)).toArray 42)) (Nat.le_refl _) (rowL n135 (outF f)).toArray)
      have hol := rowL_len n135 (outF f)
      have hol2 := rowL_len n135 (outF noOut)
      clear hck i1 h1
      go_upto_region 4 with fail
      clear c1 c2 hol hol2
      generalize (wr.alloc (.cells (rowL n135 (outF noOut)).toArray 42)).setRow wr.heap.size (rowL n135 (outF f)).toArray = w5 at *
      have c0 : w5.cell? ⟨wr.heap.size, 1, none⟩ = some (.int .i64 f.kind) := HI.out.cell (k := 1) (by unfold n135; omega)
      have HB5 : Hid (Below w.heap.size w w5) := Lib.hid (hB.out.trans (HW.out.mono hB.out.size))
      clear HI HW hB
      generalize f.kind = kd at *
      generalize wr.heap.size = fb at *
      by_cases h1 : kd = 1
      · subst h1
        have HE3 : Hid ((l.drop (k + 1)).all clearB = R) := Lib.hid (by rw [← HD.out]; rfl)
        go_wp2_with fail
        go_roundw
        case rel => exact ⟨k + 1, by omega, by go_num, HE3, HB5⟩
        case measure => simp [intOf]; omega
      · have g1 : (kd == 1) = false := by rw [beq_eq_false_iff_ne]; exact h1
        have g1' : (kd != 1) = true := by rw [bne, g1]; rfl
        by_cases h2 : kd = 2
        · subst h2
          have HE3 : Hid ((l.drop (k + 1)).all clearB = R) := Lib.hid (by rw [← HD.out]; rfl)
          go_wp2_with fail
          go_roundw
          case rel => exact ⟨k + 1, by omega, by go_num, HE3, HB5⟩
          case measure => simp [intOf]; omega
        · have g2 : (kd == 2) = false := by rw [beq_eq_false_iff_ne]; exact h2
          have g2' : (kd != 2) = true := by rw [bne, g2]; rfl
          have HE3 : Hid (R = false) := Lib.hid (by rw [← HD.out, g1, g2]; rfl)
          go_wp2_with fail
          go_ret
          exact ⟨by rw [HE3.out]; rfl, HB5.out⟩
    · have HE3 : Hid (R = true) := Lib.hid (by rw [← hE2.out, List.drop_eq_nil_of_le (by omega)]; rfl)
      go_wp2_with fail
      go_ret
      exact ⟨by rw [HE3.out]; rfl, hB.out⟩
end Go.Proofs.YtjlpdoppnhcjoaaDoor
