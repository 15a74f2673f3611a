/- The contract of awake. -/
import Derived.Test.YtgppadnbfggkcaaAa
import Derived.Test.YtgppadnbfggkcaaAc
namespace Go.Proofs.Ytgppadnbfggkcaa
open Go.RowKit

def wakeV : Val := .mk 3 0 [] 0 [.mk 0 40 [] 0 [], .mk 1 0 [97] 0 [], .mk 2 0 [] 4602678819172646912 []]
def wakeB : List UInt8 := [15, 160, 1, 5, 97, 2, 63, 224, 0, 0, 0, 0, 0, 0]
theorem half_canon : canonB 4602678819172646912 = 4602678819172646912 := by
  have h : nanB 4602678819172646912 = false := by kernel_rfl
  unfold canonB; rw [if_neg (by rw [h]; decide)]
theorem wake_enc : encR wakeV = .ok wakeB := by
  have h3 : headB 3 3 = [15] := by simp [headB, headL]
  have h0 : headB 0 40 = [160, 1] := by simp [headB, headL]
  have h1 : headB 1 1 = [5] := by simp [headB, headL]
  have h2 : headB 2 0 = [2] := by simp [headB, headL]
  have hb : be8 4602678819172646912 = [63, 224, 0, 0, 0, 0, 0, 0] := by decide +kernel
  have hf : floatL 4602678819172646912 = [2, 63, 224, 0, 0, 0, 0, 0, 0] := by unfold floatL; rw [half_canon, h2, hb]; rfl
  unfold encR wakeV
  rw [enc_list]
  simp only [List.length_cons, List.length_nil, foldE]
  rw [enc_num, h0, show headB 3 (0 + 1 + 1 + 1) = [15] from h3]
  simp only [List.nil_append, capE, List.cons_append, List.length_cons, List.length_nil]
  rw [if_neg (by omega)]
  simp only
  rw [enc_bytes]
  simp only [List.length_cons, List.length_nil]
  rw [if_neg (by omega), show headB 1 (0 + 1) = [5] from h1]
  simp only [capE, List.cons_append, List.nil_append, List.length_cons, List.length_nil]
  rw [if_neg (by omega)]
  simp only
  rw [enc_real, hf]
  simp only [capE, List.cons_append, List.nil_append, List.length_cons, List.length_nil]
  rw [if_neg (by omega)]
  simp only
  rw [if_neg (by simp)]
  rfl
theorem wake_fine : FineV 16 wakeV := by
  refine ⟨by omega, by omega, by simp, by simp, fun x hx => ?_⟩
  simp at hx
  rcases hx with rfl | rfl | rfl
  · exact ⟨by omega, by omega, by simp, by simp, fun y hy => by simp at hy⟩
  · exact ⟨by omega, by omega, by simp, by simp, fun y hy => by simp at hy⟩
  · exact ⟨by omega, by omega, by simp, by simp, fun y hy => by simp at hy⟩
theorem wake_dec : decR wakeB = .ok wakeV := by
  have h := (enc_dec wake_fine wake_enc).1
  have e : normV 16 wakeV = wakeV := by
    unfold wakeV
    simp [normV, half_canon]
  rw [e] at h; exact h
/-- The three values laid side by side. -/
theorem three_in {S : Nat → Prop} {w : World} {g : Nat} {q1 q2 q3 : Five} {x1 x2 x3 : Val} {n : Nat} {t : TypeId} (hb : w.heap[g]? = some (.cells #[q1.c0, q1.c1, q1.c2, q1.c3, q1.c4, q2.c0, q2.c1, q2.c2, q2.c3, q2.c4, q3.c0, q3.c1, q3.c2, q3.c3, q3.c4] t (0, 0))) (hS : S g)
    (h1 : ReadsS S w n q1.agg x1) (h2 : ReadsS S w n q2.agg x2) (h3 : ReadsS S w n q3.agg x3) : ListS S w (ReadsS S w n) (.slice (some ⟨g, 0, none⟩) 3 3) [x1, x2, x3] := by
  have hc : ∀ i v, #[q1.c0, q1.c1, q1.c2, q1.c3, q1.c4, q2.c0, q2.c1, q2.c2, q2.c3, q2.c4, q3.c0, q3.c1, q3.c2, q3.c3, q3.c4][i]? = some v → w.cell? ⟨g, i, none⟩ = some v := fun i v h => by
    unfold World.cell?; rw [hb]; exact h
  refine Or.inr ⟨g, 0, 3, rfl, by simp, by unfold maxLen; omega, hS, fun j x hj => ?_⟩
  match j, hj with
  | 0, hj => injection hj with hj; subst hj; exact ⟨_, _, _, _, _, hc 0 _ rfl, hc 1 _ rfl, hc 2 _ rfl, hc 3 _ rfl, hc 4 _ rfl, h1⟩
  | 1, hj => injection hj with hj; subst hj; exact ⟨_, _, _, _, _, hc 5 _ rfl, hc 6 _ rfl, hc 7 _ rfl, hc 8 _ rfl, hc 9 _ rfl, h2⟩
  | 2, hj => injection hj with hj; subst hj; exact ⟨_, _, _, _, _, hc 10 _ rfl, hc 11 _ rfl, hc 12 _ rfl, hc 13 _ rfl, hc 14 _ rfl, h3⟩
set_option maxRecDepth 100000 in
set_option maxHeartbeats 2000000 in
theorem awake_any (w : World) : Calls Try.prog 9 #[] w fun e w' => e = .returned (.bool true) ∧ Below w.heap.size w w' := by
  have hst := run_storeF
  have HE := Lib.hid wake_enc
  have HD := Lib.hid wake_dec
  go_enter Try.func9, Try.ntmps9
  go_wp2_with fail
  refine (num_any 40 _).mono ?_
  rintro e w1 ⟨rfl, hb1⟩
  have HB1 := Lib.hid hb1
  have hs1 := hb1.size
  clear hb1
  go_wp2_with fail
  refine (text_any [97] _ (by simp)).mono ?_
  rintro e w2 ⟨tv, rfl, htv, hb2⟩
  have HT := Lib.hid htv
  have hs2 := hb2.size
  have HB2 := Lib.hid (HB1.out.trans (hb2.mono hs1))
  obtain ⟨ta, tc, rfl⟩ := htv.shape
  clear htv hb2
  go_wp2_with fail
  refine (real_any 4602678819172646912 _).mono ?_
  rintro e w3 ⟨rfl, hb3⟩
  rw [half_canon]
  have hs3 := hb3.size
  have HT3 := Lib.hid (HT.out.kept (S' := fun k => k < w3.heap.size) (fun k hk => ⟨by omega, hb3.block k hk.2⟩))
  have HB3 := Lib.hid (HB2.out.trans (hb3.mono (by omega)))
  clear hb3
  go_wp2_with fail
  have hL : ListS (fun k => k < (w3.alloc (.cells #[.int .i64 0, .int .u64 40, .slice none 0 0, .float .f64 0, .slice none 0 0, .int .i64 1, .int .u64 0, .slice ta 1 tc, .float .f64 0, .slice none 0 0, .int .i64 2, .int .u64 0, .slice none 0 0, .float .f64 4602678819172646912, .slice none 0 0] 27)).heap.size) _
      (ReadsS (fun k => k < (w3.alloc (.cells #[.int .i64 0, .int .u64 40, .slice none 0 0, .float .f64 0, .slice none 0 0, .int .i64 1, .int .u64 0, .slice ta 1 tc, .float .f64 0, .slice none 0 0, .int .i64 2, .int .u64 0, .slice none 0 0, .float .f64 4602678819172646912, .slice none 0 0] 27)).heap.size) _ 15)
      (.slice (some ⟨w3.heap.size, 0, none⟩) 3 3) [.mk 0 40 [] 0 [], .mk 1 0 [97] 0 [], .mk 2 0 [] 4602678819172646912 []] :=
    three_in (q1 := ⟨_, _, _, _, _⟩) (q2 := ⟨_, _, _, _, _⟩) (q3 := ⟨_, _, _, _, _⟩) (new_five w3 _ 27) (by simp)
      ⟨_, _, rfl, by omega, by omega, by simp, by simp, Or.inl ⟨rfl, rfl⟩, Or.inl ⟨rfl, rfl⟩⟩
      ⟨_, _, rfl, by omega, by omega, by simp, by simp, HT3.out.kept (fun k hk => ⟨by simp; omega, Below.heap_alloc _ _ _ hk⟩), Or.inl ⟨rfl, rfl⟩⟩
      ⟨_, _, rfl, by omega, by omega, by simp, by simp, Or.inl ⟨rfl, rfl⟩, Or.inl ⟨rfl, rfl⟩⟩
  have hdeep : ∀ x ∈ [Val.mk 0 40 [] 0 [], .mk 1 0 [97] 0 [], .mk 2 0 [] 4602678819172646912 []], Deep 15 x := by
    intro x hx
    simp at hx
    rcases hx with rfl | rfl | rfl <;> intro y hy <;> simp at hy
  refine (row_any 15 _ _ _ _ (fun k hk => hk) (by simp) hdeep hL).mono ?_
  rintro e w4 ⟨rv, rfl, hrl, hb4⟩
  have hs4 := hb4.size
  simp at hs4
  have hread : Reads w4.heap.size w4 16 (.agg #[.int .i64 3, .int .u64 0, .slice none 0 0, .float .f64 0, rv]) wakeV :=
    ReadsS.into (fun k hk => hk.2) 16 _ _ (⟨_, _, rfl, by omega, by omega, by simp, by simp, Or.inl ⟨rfl, rfl⟩, hrl⟩)
  obtain ⟨ra, rc, rfl⟩ := hrl.shape
  have HB4 := Lib.hid ((HB3.out.alloc (by omega) _).trans (hb4.mono (by simp; omega)))
  have HR4 := Lib.hid hread
  clear hL hdeep hrl hb4 hread
  go_wp2_with fail
  have henc := encode_any _ wakeV w4 HR4.out
  rw [HE.out] at henc
  refine henc.mono ?_
  clear henc
  rintro e w5 ⟨bv5, rfl, hown, hb5⟩
  have hs5 := hb5.size
  have HB5 := Lib.hid (HB4.out.trans (hb5.mono (by omega)))
  have HC5 := Lib.hid (own_c hown)
  obtain ⟨sa, sc, rfl⟩ := own_slice hown
  clear hown hb5
  go_wp2_with fail
  have hdec := decode_any _ _ wakeB w5 (fun k hk => hk.2) HC5.out
  rw [HD.out] at hdec
  refine hdec.mono ?_
  clear hdec
  rintro e w6 ⟨dv, rfl, hrd, hb6⟩
  have hs6 := hb6.size
  have HB6 := Lib.hid (HB5.out.trans (hb6.mono (by omega)))
  have hcv := bytes_string ((HC5.out.into (B := w5.heap.size) (fun k hk => hk.2)).below hb6)
  obtain ⟨db, dl, rfl, _, _, _, _, hdb, hdl⟩ := hrd
  obtain ⟨dba, dbc, rfl⟩ := hdb.shape
  rcases hdl with ⟨_, h0⟩ | ⟨g, o, cap, rfl, hlc, hcm, hSg, hcells⟩
  · simp at h0
  obtain ⟨c0, c1, c2, c3, c4, e0, e1, e2, e3, e4, hel⟩ := hcells 0 _ rfl
  obtain ⟨evb, evl, hagg, _⟩ := hel
  have hsh : c1 = .int .u64 40 := by
    injection hagg with hagg
    injection hagg with hagg
    injection hagg with _ hagg
    injection hagg with hagg
  subst hsh
  rw [Nat.zero_mul, Nat.add_zero] at e0 e1 e2 e3 e4
  have hgl : g < w6.heap.size := hSg.2
  have f1 := (World.cell?_of_block (w := w6) (a := ⟨g, o + 1, none⟩) (Below.heap_alloc w6 (.cells #[.int .i64 3, .int .u64 0, .slice dba 0 dbc, .float .f64 0, .slice (some ⟨g, o, none⟩) 3 cap] 27) g hgl)).trans e1
  have hcv7 : (convert 23 9 (.slice sa wakeB.length sc)).run Try.prog (w6.alloc (.cells #[.int .i64 3, .int .u64 0, .slice dba 0 dbc, .float .f64 0, .slice (some ⟨g, o, none⟩) 3 cap] 27)) = .ok (.string ⟨#[15, 160, 1, 5, 97, 2, 63, 224, 0, 0, 0, 0, 0, 0]⟩) _ := bytes_string ((HC5.out.into (B := w5.heap.size) (fun k hk => hk.2)).below (hb6.alloc (by omega) (.cells #[.int .i64 3, .int .u64 0, .slice dba 0 dbc, .float .f64 0, .slice (some ⟨g, o, none⟩) 3 cap] 27)))

  clear hcells hagg hdb e0 e1 e2 e3 e4 hcv
  go_wp2_with fail
  go_ret
  exact ⟨rfl, HB6.out.alloc (by omega) _⟩
end Go.Proofs.Ytgppadnbfggkcaa
