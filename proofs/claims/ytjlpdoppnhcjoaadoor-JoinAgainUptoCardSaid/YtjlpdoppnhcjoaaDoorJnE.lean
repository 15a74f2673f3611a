/- What becomes of a path is written: kind, id, time; keep. -/
import Derived.Test.YtjlpdoppnhcjoaaDoorJnD
namespace Go.Proofs.YtjlpdoppnhcjoaaDoor
open Go.RowKit Go.Lib
attribute [local simp high] files_size outcome_size id_size n135_ne n138_ne n32_ne n34_ne
/-- Only one block's cells have turned. -/
structure Only (b : Nat) (w w' : World) : Prop where
  far : ∀ q, q ≠ b → w'.heap[q]? = w.heap[q]?
  size : w'.heap.size = w.heap.size
  bel : ∀ B w0, Below B w0 w → B ≤ b → Below B w0 w'
theorem Only.refl (b : Nat) (w : World) : Only b w w := ⟨fun _ _ => rfl, rfl, fun _ _ h _ => h⟩
theorem Only.trans {b : Nat} {w w1 w2 : World} (h : Only b w w1) (k : Only b w1 w2) : Only b w w2 := ⟨fun q hq => (k.far q hq).trans (h.far q hq), k.size.trans h.size, fun B w0 hB hb => k.bel B w0 (h.bel B w0 hB hb) hb⟩
theorem Only.set (b k : Nat) (w : World) (v : Value) : Only b w (w.setCell ⟨b, k, none⟩ v) := ⟨fun q hq => Below.heap_setCell w ⟨b, k, none⟩ v q hq, by simp [World.setCell], fun B w0 hB hb => hB.setCell hb v⟩
theorem Only.drew (b n : Nat) (w : World) : Only b w (w.drewN n) := ⟨fun _ _ => rfl, rfl, fun _ _ hB _ => ⟨hB.os, hB.tape, hB.output, hB.size, hB.block⟩⟩
section
variable {w : World} {b : Nat} {o : OutN} {st : Nat → Nat}
theorem FAt.drew (h : FAt w b o st) (n : Nat) : FAt (w.drewN n) b o st := h.kept rfl
theorem FAt.setKind (h : FAt w b o st) (k : Int) : FAt (w.setCell ⟨b, 1, none⟩ (.int .i64 k)) b { o with kind := k } st := by
  refine (h.set (k := 1) (by unfold n138; omega) _).congr (fun j _ => ?_)
  by_cases e : j = 1
  · subst e; rw [if_pos rfl]; rfl
  · rw [if_neg e]
    unfold filF outF
    simp only [if_neg e]
theorem FAt.setStamp (h : FAt w b o st) (s : Nat) : FAt (w.setCell ⟨b, 34, none⟩ (.float .f64 s)) b { o with stamp := s } st := by
  refine (h.set (k := 34) (by unfold n138; omega) _).congr (fun j _ => ?_)
  by_cases e : j = 34
  · subst e; rw [if_pos rfl]; rfl
  · rw [if_neg e]
    unfold filF outF
    simp only [if_neg e]
theorem FAt.setText (h : FAt w b o st) (v : Value) : FAt (w.setCell ⟨b, 35, none⟩ v) b { o with tv := v } st := by
  refine (h.set (k := 35) (by unfold n138; omega) _).congr (fun j _ => ?_)
  by_cases e : j = 35
  · subst e; rw [if_pos rfl]; rfl
  · rw [if_neg e]
    unfold filF outF
    simp only [if_neg e]
theorem FAt.setPath (h : FAt w b o st) (p : List UInt8) : FAt (w.setCell ⟨b, 0, none⟩ (.string ⟨p.toArray⟩)) b { o with path := p } st := by
  refine (h.set (k := 0) (by unfold n138; omega) _).congr (fun j _ => ?_)
  by_cases e : j = 0
  · subst e; rw [if_pos rfl]; rfl
  · rw [if_neg e]
    unfold filF outF
    simp only [if_neg e]
theorem FAt.setHas (h : FAt w b o st) {i : Nat} (hi : i < 3) (x : Bool) : FAt (w.setCell ⟨b, 36 + i, none⟩ (.bool x)) b { o with has := fun j => if j = i then x else o.has j } st := by
  refine (h.set (k := 36 + i) (by unfold n138; omega) _).congr (fun j _ => ?_)
  by_cases e : j = 36 + i
  · subst e
    rw [if_pos rfl]
    unfold filF outF
    rw [if_pos (by omega), if_neg (by omega), if_neg (by omega), if_neg (by omega), if_neg (by omega), if_neg (by omega), if_pos (by omega), show 36 + i - 36 = i by omega]
    show _ = Value.bool (if i = i then x else o.has i)
    rw [if_pos rfl]
  · rw [if_neg e]
    unfold filF outF
    split
    · split
      · rfl
      · split
        · rfl
        · split
          · rfl
          · split
            · rfl
            · split
              · rfl
              · split
                · show Value.bool _ = Value.bool (if j - 36 = i then x else o.has (j - 36))
                  rw [if_neg (by omega)]
                · rfl
    · rfl
theorem FAt.setStamps (h : FAt w b o st) {i : Nat} (hi : i < 3) (s : Nat) : FAt (w.setCell ⟨b, 135 + i, none⟩ (.float .f64 s)) b o (fun j => if j = i then s else st j) := by
  refine (h.set (k := 135 + i) (by unfold n138; omega) _).congr (fun j _ => ?_)
  by_cases e : j = 135 + i
  · subst e
    rw [if_pos rfl]
    unfold filF
    rw [if_neg (by omega), show 135 + i - 135 = i by omega]
    show _ = Value.float .f64 (if i = i then s else st i)
    rw [if_pos rfl]
  · rw [if_neg e]
    unfold filF
    split
    · rfl
    · show _ = Value.float .f64 (if j - 135 = i then s else st (j - 135))
      rw [if_neg (by omega)]
theorem id_one (f : Nat → UInt8) (n : Nat) : OneC n (idF f) := fun _ _ => rfl
/-- The id, written. -/
theorem FAt.setId (h : FAt w b o st) (f : Nat → UInt8) : ∃ w', (storeCells ⟨b, 2, none⟩ (bv (idL f))).run Tryd.prog w = .ok () w' ∧ FAt w' b { o with id := f } st ∧ Only b w w' := by
  obtain ⟨w', h1, h2, h3, h4, h5⟩ := h.store (o := 2) (m := n32) (G := idF f) (by unfold n32 n138; omega) (id_one f _)
  rw [idL_row] at h1
  refine ⟨w', h1, h2.congr (fun j _ => ?_), h4, h5, h3⟩
  have e : n32 = 32 := rfl
  rw [e]
  by_cases hj : 2 ≤ j ∧ j < 34
  · rw [if_pos (by omega)]
    unfold filF outF idF
    rw [if_pos (by omega), if_neg (by omega), if_neg (by omega), if_pos (by omega)]
  · rw [if_neg (by omega)]
    unfold filF outF
    by_cases h0 : j = 0
    · subst h0; rfl
    · by_cases h1 : j = 1
      · subst h1; rfl
      · simp only [if_neg h0, if_neg h1, if_neg (show ¬ j < 34 by omega)]
/-- One of the ids, written. -/
theorem FAt.setIds (h : FAt w b o st) {i : Nat} (hi : i < 3) (f : Nat → UInt8) : ∃ w', (storeCells ⟨b, 39 + i * n32, none⟩ (bv (idL f))).run Tryd.prog w = .ok () w' ∧ FAt w' b { o with ids := fun j => if j = i then f else o.ids j } st ∧ Only b w w' := by
  have e : n32 = 32 := rfl
  obtain ⟨w', h1, h2, h3, h4, h5⟩ := h.store (o := 39 + i * n32) (m := n32) (G := idF f) (by rw [e]; unfold n138; omega) (id_one f _)
  rw [idL_row] at h1
  refine ⟨w', h1, h2.congr (fun j _ => ?_), h4, h5, h3⟩
  rw [e]
  by_cases hj : 39 + i * 32 ≤ j ∧ j < 39 + i * 32 + 32
  · rw [if_pos hj]
    unfold filF outF idF
    rw [if_pos (by omega), if_neg (by omega), if_neg (by omega), if_neg (by omega), if_neg (by omega), if_neg (by omega), if_neg (by omega)]
    show _ = Value.int .u8 (((if (j - 39) / 32 = i then f else o.ids ((j - 39) / 32)) ((j - 39) % 32)).toNat : Int)
    rw [if_pos (by omega), show (j - 39) % 32 = j - (39 + i * 32) by omega]
  · rw [if_neg hj]
    unfold filF outF
    split
    · split
      · rfl
      · split
        · rfl
        · split
          · rfl
          · split
            · rfl
            · split
              · rfl
              · split
                · rfl
                · show _ = Value.int .u8 (((if (j - 39) / 32 = i then f else o.ids ((j - 39) / 32)) ((j - 39) % 32)).toNat : Int)
                  rw [if_neg (by omega)]
    · rfl
end
set_option maxRecDepth 100000 in
set_option maxHeartbeats 4000000 in
theorem keep_any (fb : Nat) (o : OutN) (st : Nat → Nat) (w : World) (h : FAt w fb o st) (i : Nat) (hi : i < 3) :
    Calls Tryd.prog 41 #[.pointer (some ⟨fb, 0, none⟩), .int .i64 (i : Int)] w fun e w' => e = .returned (.bool (o.has i)) ∧ FAt w' fb { o with kind := 1, id := o.ids i } st ∧ Only fb w w' := by
  have l0 := FAt.ids h hi
  rw [idL_row] at l0
  have hol : (bv (idL (o.ids i))).length = n32 := by rw [bv_len, idL_len]; rfl
  have a1 : (i : Int) < 3 := by omega
  have k1 := h.setKind 1
  have O1 := Only.set fb 1 w (.int .i64 1)
  have e1 := h.cell (k := 1) (by unfold n138; omega)
  have f1 := h.free 1
  obtain ⟨w2, s2, h2, O2⟩ := FAt.setId (o := { o with kind := 1 }) k1 (o.ids i)
  have HF := Lib.hid h2
  have HO := Lib.hid (O1.trans O2)
  have d0 := HF.out.has hi
  generalize filF o st 1 = old at *
  generalize bv (idL (o.ids i)) = p at *
  clear h k1 O1 O2 h2
  go_enter Tryd.func41, Tryd.ntmps41
  go_wp2_with fail
  go_ret
  exact ⟨rfl, HF.out, HO.out⟩
end Go.Proofs.YtjlpdoppnhcjoaaDoor
