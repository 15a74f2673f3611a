/- The blobs of the law's shelf: the reference's Text. -/
import Derived.Test.YtjlpdoppnhcjoaaDoorJnI
namespace Go.Proofs.YtjlpdoppnhcjoaaDoor
open Go.RowKit Go.Lib
/-- A blob of the shelf. -/
structure BlobN where
  id : Nat → UInt8
  text : List UInt8
  bad : Int
def blobF (b : BlobN) (k : Nat) : Value := if k < 32 then .int .u8 ((b.id k).toNat : Int) else if k = 32 then .string ⟨b.text.toArray⟩ else .int .i64 b.bad
def noBlob : BlobN := ⟨fun _ => 0, [], 0⟩
theorem blob_size (w : World) : (sizeOf 67).run Tryd.prog w = .ok n34 w := by rw [Tryd.sizeOf67]; rfl
attribute [local simp high] id_size n32_ne n34_ne blob_size
def blobRel (_ : Nat → Prop) (_ : World) (b : BlobN) (cs : List Value) : Prop := cs = rowL n34 (blobF b)
theorem blob_keeps : Keeps blobRel := fun _ _ _ _ _ _ h _ => h
abbrev BlobsC := RowsC blobRel n34
theorem BlobsC.at {S : Nat → Prop} {w : World} {a : Option Addr} {c : Nat} {l : List BlobN} (h : BlobsC S w (.slice a l.length c) l) (hn : 0 < l.length) :
    ∃ g o, a = some ⟨g, o, none⟩ ∧ S g ∧ l.length ≤ c ∧ c ≤ 9223372036854775807 ∧ ∀ i, i < l.length → ∀ k, k < 34 → w.cell? ⟨g, o + i * n34 + k, none⟩ = some (blobF (l.getD i noBlob) k) := by
  obtain ⟨g, o, h1, h2, h3, h4, h5⟩ := RowsC.at h hn
  refine ⟨g, o, h1, h2, h3, h4, fun i hi k hk => ?_⟩
  have he : l[i]? = some (l.getD i noBlob) := by simp [List.getD, hi]
  obtain ⟨cs, _, h7, h8⟩ := h5 i _ he
  obtain rfl : cs = _ := h7
  rw [Nat.add_assoc]
  exact h8 k _ (rowL_at _ (by unfold n34; exact hk))
/-- A blob's text, or the error's number. -/
def textOf (f : Nat → UInt8) : List BlobN → List UInt8 × Int
  | [] => ([], 4)
  | b :: l => if idL b.id = idL f then (if b.bad ≠ 0 then ([], b.bad) else (b.text, 0)) else textOf f l
set_option maxRecDepth 100000 in
set_option maxHeartbeats 4000000 in
theorem rtext13_any (S : Nat → Prop) (v : Value) (l : List BlobN) (f : Nat → UInt8) (w : World) (hS : ∀ k, S k → k < w.heap.size) (hv : BlobsC S w v l) (hl : l.length ≤ 4194304) :
    Calls Tryd.prog 116 #[v, .agg (bv (idL f)).toArray] w fun e w' => e = .returned (.tuple #[.string ⟨(textOf f l).1.toArray⟩, .int .i64 (textOf f l).2]) ∧ Below w.heap.size w w' := by
  obtain ⟨la, lc, rfl⟩ := RowsC.shape hv
  obtain ⟨R, hR⟩ : ∃ R, textOf f l = R := ⟨_, rfl⟩
  have HR : Hid (textOf f (l.drop 0) = R) := Lib.hid hR
  rw [hR]
  have HV := Lib.hid (fun (W : World) (hb : Below w.heap.size w W) => RowsC.kept blob_keeps hv (S' := S) (w' := W) (fun k hk => ⟨hk, hb.block k (hS k hk)⟩))
  have hbx := new_five w (bv (idL f)).toArray 36
  have HBX : Hid (RF (w.alloc (.cells (bv (idL f)).toArray 36)) w.heap.size 36 n32 (idF f)) := Lib.hid ⟨by rw [idL_row]; exact hbx⟩
  have HB0 := Lib.hid ((Below.refl w.heap.size w).alloc (Nat.le_refl _) (.cells (bv (idL f)).toArray 36))
  clear hv hR hS hbx
  go_enter Tryd.func116, Tryd.ntmps116
  go_upto_region 1 with fail
  generalize w.alloc (.cells (bv (idL f)).toArray 36) = w1 at *
  go_wp2_with fail
  go_loopw [6] (fun i wr => ∃ k : Nat, k ≤ l.length ∧ i = .int .i64 (k : Int) ∧ Hid (textOf f (l.drop k) = R) ∧ Hid (RF wr w.heap.size 36 n32 (idF f)) ∧ Hid (Below w.heap.size w wr)) (fun i _ => l.length - (intOf i).toNat)
  case atStart => exact ⟨0, Nat.zero_le _, rfl, HR, HBX, HB0⟩
  case round =>
    obtain ⟨k, hk, rfl, hE, hX, hB⟩ := hrel
    by_cases hlt : k < l.length
    · obtain ⟨g, o, rfl, _, _, _, hat⟩ := BlobsC.at (HV.out wr hB.out) (by omega)
      have HD : Hid (R = if idL (l.getD k noBlob).id = idL f then (if (l.getD k noBlob).bad ≠ 0 then ([], (l.getD k noBlob).bad) else ((l.getD k noBlob).text, 0)) else textOf f (l.drop (k + 1))) := Lib.hid (by
        rw [← hE.out, List.drop_eq_getElem_cons hlt]
        have e : l.getD k noBlob = l[k] := by simp [List.getD, hlt]
        rw [e]; rfl)
      have hck := hat k hlt
      clear hat hE
      generalize l.getD k noBlob = b at *
      have l0 : ∀ n, (loadCellsFrom ⟨g, o + k * n34, none⟩ 0 n32 #[]).run Tryd.prog (wr.drewN n) = .ok (bv (idL b.id)).toArray (wr.drewN n) := fun n => by
        have h := load_row (wr.drewN n) g (o + k * n34) n32 (idF b.id) (fun j hj => by
          have h2 := hck j (by unfold n32 at hj; omega)
          have e : blobF b j = idF b.id j := by unfold blobF idF; unfold n32 at hj; rw [if_pos hj]
          rw [← e]; exact h2)
        rw [idL_row] at h
        exact h
      have l1 : ∀ n, (loadCellsFrom ⟨w.heap.size, 0, none⟩ 0 n32 #[]).run Tryd.prog (wr.drewN n) = .ok (bv (idL f)).toArray (wr.drewN n) := fun n => by
        have h := load_row (wr.drewN n) w.heap.size 0 n32 (idF f) (fun j hj => by rw [Nat.zero_add]; exact hX.out.cell hj)
        rw [idL_row] at h
        exact h
      have HT : Hid (∀ n, (wr.drewN n).cell? ⟨g, o + k * n34 + 32, none⟩ = some (.string ⟨b.text.toArray⟩)) := Lib.hid (fun n => hck 32 (by omega))
      have HBD : Hid (∀ n, (wr.drewN n).cell? ⟨g, o + k * n34 + 33, none⟩ = some (.int .i64 b.bad)) := Lib.hid (fun n => hck 33 (by omega))
      have he := fun W => id_eql W (idL_len b.id) (idL_len f)
      obtain ⟨q, hq⟩ : ∃ q, decide (idL b.id = idL f) = q := ⟨_, rfl⟩
      simp only [hq] at he
      have HQ := Lib.hid hq
      clear hq hck
      generalize bv (idL b.id) = x at *
      generalize bv (idL f) = y at *
      go_upto_region 4 with fail
      go_quiet (fail)
      clear l0 l1 he
      have HB2 : Hid (Below w.heap.size w (wr.drewN nq)) := Lib.hid (hB.out.trans ((drewn _ _ _).mono hB.out.size))
      have HX2 : Hid (RF (wr.drewN nq) w.heap.size 36 n32 (idF f)) := Lib.hid (hX.out.kept rfl)
      have ct := HT.out nq
      have cb := HBD.out nq
      generalize wr.drewN nq = w5 at *
      clear HT HBD hB hX
      generalize bd : b.bad = bad at *
      cases q
      · have HE2 : Hid (textOf f (l.drop (k + 1)) = R) := Lib.hid (by rw [HD.out, if_neg (of_decide_eq_false HQ.out)])
        go_wp2_with fail
        go_roundw
        case rel => exact ⟨k + 1, by omega, by go_num, HE2, HX2, HB2⟩
        case measure => simp [intOf]; omega
      · have hd := of_decide_eq_true HQ.out
        by_cases h0 : bad = 0
        · have HE2 : Hid (R = (b.text, 0)) := Lib.hid (by rw [HD.out, if_pos hd, if_neg (by rw [h0]; simp)])
          have g0 : (bad == 0) = true := by rw [h0]; rfl
          have g1 : (bad != 0) = false := by rw [h0]; rfl
          clear hd h0 bd
          go_wp2_with fail
          go_ret2
          exact ⟨by rw [HE2.out]; rfl, HB2.out⟩
        · have HE2 : Hid (R = ([], bad)) := Lib.hid (by rw [HD.out, if_pos hd, if_pos h0])
          have g0 : (bad == 0) = false := by rw [beq_eq_false_iff_ne]; exact h0
          have g1 : (bad != 0) = true := by rw [bne, g0]; rfl
          clear hd h0 bd
          go_upto_region 6 with fail
          go_quiet (fail)
          have HB3 : Hid (Below w.heap.size w (w5.drewN nq)) := Lib.hid (HB2.out.trans ((drewn _ _ _).mono HB2.out.size))
          generalize w5.drewN nq = w6 at *
          go_wp2_with fail
          go_ret2
          exact ⟨by rw [HE2.out]; rfl, HB3.out⟩
    · have HE : Hid (R = ([], 4)) := Lib.hid (by rw [← hE.out, List.drop_eq_nil_of_le (by omega)]; rfl)
      go_wp2_with fail
      go_ret2
      exact ⟨by rw [HE.out]; rfl, hB.out⟩
end Go.Proofs.YtjlpdoppnhcjoaaDoor
