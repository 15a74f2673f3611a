/- Texts cut into lines: the walks of Split, Join, IsText, and of the reference's. -/
import Derived.Test.YtfiogjdjcocbnaaLinC
import Derived.Test.YtfiogjdjcocbnaaShelf
import Derived.Lib.IndexLaws
namespace Go.Proofs.Ytfiogjdjcocbnaa
open Go.RowKit

/-- The lines of a text, each with its end. -/
def linesL : List UInt8 → List (List UInt8)
  | [] => []
  | c :: t => if c = 10 then [10] :: linesL t else match linesL t with
    | [] => [[c]]
    | h :: r => (c :: h) :: r
theorem linesL_end {x : List UInt8} (h : (10 : UInt8) ∉ x) (r : List UInt8) : linesL (x ++ 10 :: r) = (x ++ [10]) :: linesL r := by
  induction x with
  | nil => rfl
  | cons c x ih =>
    have hc : c ≠ 10 := fun e => h (e ▸ List.mem_cons_self)
    rw [List.cons_append, linesL, if_neg hc, ih (fun e => h (List.mem_cons_of_mem _ e))]; rfl
theorem linesL_last {x : List UInt8} (h : (10 : UInt8) ∉ x) (hx : x ≠ []) : linesL x = [x] := by
  induction x with
  | nil => exact absurd rfl hx
  | cons c x ih =>
    have hc : c ≠ 10 := fun e => h (e ▸ List.mem_cons_self)
    rw [linesL, if_neg hc]
    cases x with
    | nil => rfl
    | cons d x => rw [ih (fun e => h (List.mem_cons_of_mem _ e)) (by simp)]
theorem linesL_flat (x : List UInt8) : (linesL x).flatten = x := by
  induction x with
  | nil => rfl
  | cons c t ih =>
    rw [linesL]
    by_cases h : c = 10
    · rw [if_pos h, List.flatten_cons, ih, h]; rfl
    · rw [if_neg h]
      cases e : linesL t with
      | nil =>
        rw [e] at ih
        have ht : t = [] := by simpa using ih.symm
        subst ht; rfl
      | cons a r => rw [e] at ih; rw [← ih]; rfl
theorem linesL_len (x : List UInt8) : (linesL x).length ≤ x.length := by
  induction x with
  | nil => simp [linesL]
  | cons c t ih =>
    rw [linesL]
    split
    · simpa using ih
    · cases e : linesL t with
      | nil => simp
      | cons a r => rw [e] at ih; simp at ih ⊢; omega
theorem linesL_mem (x : List UInt8) : ∀ l ∈ linesL x, l.length ≤ x.length := by
  induction x with
  | nil => intro l hl; cases hl
  | cons c t ih =>
    rw [linesL]
    split
    · intro l hl
      rcases List.mem_cons.1 hl with rfl | hl
      · simp
      · have := ih l hl; simp; omega
    · cases e : linesL t with
      | nil => intro l hl; rw [List.mem_singleton] at hl; subst hl; simp
      | cons a r =>
        rw [e] at ih
        intro l hl
        rcases List.mem_cons.1 hl with rfl | hl
        · have := ih a List.mem_cons_self; simp; omega
        · have := ih l (List.mem_cons_of_mem _ hl); simp; omega
theorem bytesOf_bv (l : List UInt8) : Lib.bytesOf (l.map fun c => (c.toNat : Int)) = l := by
  unfold Lib.bytesOf
  rw [List.map_map]
  conv => rhs; rw [← List.map_id l]
  apply List.map_congr_left
  intro c _
  show UInt8.ofNat ((c.toNat : Int)).toNat = c
  rw [Int.toNat_natCast]
  exact UInt8.ofNat_toNat
theorem indexByte_any (S : Nat → Prop) (v : Value) (l : List UInt8) (cv : Int) (w : World) (h : BytesC S w v l) : Calls Try.prog 45 #[v, .int .u8 cv] w fun e w' => e = .returned (.int .i64 (Lib.indexByte l cv.toNat.toUInt8)) ∧ w = w' := by
  rcases h with ⟨rfl, rfl⟩ | ⟨a, cap, rfl, _, _, _, hc⟩
  · exact (Try.bytes_IndexByte_nil cv w).mono fun _ _ ⟨he, hw⟩ => ⟨he, hw.symm⟩
  · have := Try.bytes_IndexByte_at a l.length cap (l.map fun c => (c.toNat : Int)) cv w (by simp) (fun i hi => hc i _ (by unfold bv; simp [List.getD, hi]))
    rw [bytesOf_bv] at this
    exact this.mono fun _ _ ⟨he, hw⟩ => ⟨he, hw.symm⟩
theorem index_cases (l : List UInt8) (c : UInt8) : (Lib.indexByte l c = -1 ∧ c ∉ l) ∨ ∃ n : Nat, Lib.indexByte l c = n ∧ n < l.length ∧ c ∉ l.take n ∧ l.drop n = c :: l.drop (n + 1) := by
  have hge := Lib.indexByte_ge l c
  rcases Int.lt_or_le (Lib.indexByte l c) 0 with h | h
  · have e : Lib.indexByte l c = -1 := by omega
    left
    refine ⟨e, fun hm => ?_⟩
    obtain ⟨k, hk⟩ := List.getElem?_of_mem hm
    exact Lib.indexByte_none e k hk
  · right
    obtain ⟨n, hn⟩ := Int.eq_ofNat_of_zero_le h
    obtain ⟨h1, h2⟩ := Lib.indexByte_some hn
    obtain ⟨hl, hx⟩ := List.getElem?_eq_some_iff.1 h1
    refine ⟨n, hn, hl, fun hm => ?_, by rw [List.drop_eq_getElem_cons hl, hx]⟩
    obtain ⟨k, hk⟩ := List.getElem?_of_mem hm
    rw [List.getElem?_take] at hk
    split at hk
    · rename_i hkn; exact h2 k hkn hk
    · cases hk
/-- Is it a text: no byte 0? -/
def isTextB (l : List UInt8) : Bool := decide ((0 : UInt8) ∉ l)
set_option maxHeartbeats 1000000 in
theorem isText_any (S : Nat → Prop) (v : Value) (l : List UInt8) (w : World) (h : BytesC S w v l) : Calls Try.prog 23 #[v] w fun e w' => e = .returned (.bool (isTextB l)) ∧ w = w' := by
  have HC := Lib.hid (indexByte_any S v l 0 w h)
  rcases index_cases l 0 with ⟨h1, h2⟩ | ⟨n, h1, h2, h3, h4⟩
  · have HT : Hid (isTextB l = true) := Lib.hid (decide_eq_true h2)
    have h1' : Lib.indexByte l (0 : Int).toNat.toUInt8 = -1 := h1
    rw [h1'] at HC
    generalize isTextB l = q at *
    clear h h1 h1' h2
    go_enter Try.func23, Try.ntmps23
    go_wp2_with fail
    refine HC.out.mono ?_
    rintro e w1 ⟨rfl, rfl⟩
    go_wp2_with fail
    go_ret
    exact ⟨by rw [HT.out]; rfl, rfl⟩
  · have HT : Hid (isTextB l = false) := Lib.hid (decide_eq_false (fun k => k (by
      have : (0 : UInt8) ∈ l.drop n := by rw [h4]; exact List.mem_cons_self
      exact List.mem_of_mem_drop this)))
    have h1' : Lib.indexByte l (0 : Int).toNat.toUInt8 = n := h1
    rw [h1'] at HC
    have gd : decide ((n : Int) < 0) = false := decide_eq_false (by omega)
    generalize isTextB l = q at *
    clear h h1 h1' h2 h3 h4
    go_enter Try.func23, Try.ntmps23
    go_wp2_with fail
    refine HC.out.mono ?_
    rintro e w1 ⟨rfl, rfl⟩
    go_wp2_with fail
    go_ret
    exact ⟨by rw [HT.out]; rfl, rfl⟩
set_option maxRecDepth 100000 in
set_option maxHeartbeats 1000000 in
theorem risText_any (l : List UInt8) (w : World) (hl : l.length ≤ 4194304) : Calls Try.prog 24 #[.string ⟨l.toArray⟩] w fun e w' => e = .returned (.bool (isTextB l)) ∧ w = w' := by
  generalize hq : isTextB l = q
  have Q := Lib.hid hq
  clear hq
  go_enter Try.func24, Try.ntmps24
  go_wp2_with fail
  go_loop [3] (fun i => ∃ k : Nat, k ≤ l.length ∧ i = .int .i64 k ∧ Hid ((0 : UInt8) ∉ l.take k)) (fun i => l.length - (intOf i).toNat)
  case atStart => exact ⟨0, Nat.zero_le _, rfl, Lib.hid (by simp)⟩
  case round =>
    obtain ⟨k, hk, rfl, h0⟩ := hrel
    by_cases hlt : k < l.length
    · have hx := idx_eq l k hlt
      have HS : Hid (l[k] ≠ 0 → (0 : UInt8) ∉ l.take (k + 1)) := Lib.hid (fun e hm => by
        rw [List.take_succ_eq_append_getElem hlt] at hm
        rcases List.mem_append.1 hm with hm | hm
        · exact h0.out hm
        · rw [List.mem_singleton] at hm; exact e hm.symm)
      have HZ : Hid (l[k] = 0 → q = false) := Lib.hid (fun e => by
        rw [← Q.out]; exact decide_eq_false (fun n => n (by rw [← e]; exact List.getElem_mem hlt)))
      by_cases e : l[k] = 0
      · have HE := Lib.hid (HZ.out e)
        have g : (((l[k]).toNat : Int) == 0) = true := by rw [e]; rfl
        generalize l[k] = x at *
        clear e
        go_wp2_with fail
        go_ret
        exact ⟨by rw [HE.out]; rfl, rfl⟩
      · have HE := Lib.hid (HS.out e)
        have g : (((l[k]).toNat : Int) == 0) = false := by
          rw [beq_eq_false_iff_ne]; intro k2; exact e (UInt8.toNat_inj.1 (by simpa using k2))
        generalize l[k] = x at *
        clear e
        go_wp2_with fail
        go_round
        case rel => exact ⟨k + 1, by omega, by go_num, HE⟩
        case measure => simp [intOf]; omega
    · have HE : Hid (q = true) := Lib.hid (Q.out.symm.trans <| decide_eq_true (by
        have := h0.out
        rwa [List.take_of_length_le (by omega)] at this))
      go_wp2_with fail
      go_ret
      exact ⟨by rw [HE.out]; rfl, rfl⟩
theorem bytes_slen {S : Nat → Prop} {w : World} {v : Value} {l : List UInt8} (h : BytesC S w v l) : ∃ a c, v = .slice a l.length c ∧ l.length ≤ c ∧ c ≤ 9223372036854775807 := by
  rcases h with ⟨rfl, rfl⟩ | ⟨a, cap, rfl, h1, h2, _⟩
  · exact ⟨none, 0, rfl, Nat.le_refl _, by omega⟩
  · exact ⟨_, cap, rfl, h1, by unfold maxLen at h2; omega⟩
def slenV : Value → Nat
  | .slice _ n _ => n
  | _ => 0
theorem und_bytes : Try.prog.underlying 22 = some (.slice (Try.prog.elem 22)) := by kernel_rfl
theorem size_bytes (W : World) : (sizeOf (Try.prog.elem 22)).run Try.prog W = .ok 1 W := by kernel_rfl
/-- A slice of bytes cut at its end, and at its beginning. -/
theorem bytes_cutH {S : Nat → Prop} {w : World} {a : Option Addr} {c : Nat} {l : List UInt8} (h : BytesC S w (.slice a l.length c) l) {hi : Nat} (h1 : hi ≤ l.length) :
    ∃ a' c', (∀ W, (Instr.sliceAt 22 (.slice a l.length c) none (some (.int .i64 (hi : Int))) none).run Try.prog W = .ok (.slice a' (l.take hi).length c') W) ∧ BytesC S w (.slice a' (l.take hi).length c') (l.take hi) := by
  have e : (l.take hi).length = hi := by simp; omega
  obtain ⟨a2, c2, e2, hc, hm⟩ := bytes_slen h
  injection e2 with e2 _ e3
  subst e2 e3
  refine ⟨if c = 0 then a else a.map (·.add 0), c, fun W => ?_, ?_⟩
  · rw [run_sliceAt_slice W _ _ _ _ _ und_bytes, run_slice_h W _ _ _ _ und_bytes _ _ (by omega) (by omega), size_bytes, e]
    simp [sliced, Result.andThen]
  · have e3 : (if c = 0 then a else a.map (·.add 0)) = a := by
      split
      · rfl
      · cases a with
        | none => rfl
        | some a => rw [Option.map_some, add_none]
    rw [e3]
    cases a with
    | none =>
      rcases h with ⟨h, hl⟩ | ⟨_, _, h, _⟩
      · subst hl
        obtain rfl : hi = 0 := by simpa using h1
        exact Or.inl ⟨h, rfl⟩
      · cases h
    | some a => rw [e]; exact cut_c h hi h1
theorem bytes_cutL {S : Nat → Prop} {w : World} {a : Option Addr} {c : Nat} {l : List UInt8} (h : BytesC S w (.slice a l.length c) l) {lo : Nat} (h1 : lo ≤ l.length) :
    ∃ a' c', (∀ W, (Instr.sliceAt 22 (.slice a l.length c) (some (.int .i64 (lo : Int))) none none).run Try.prog W = .ok (.slice a' (l.drop lo).length c') W) ∧ BytesC S w (.slice a' (l.drop lo).length c') (l.drop lo) := by
  have e : (l.drop lo).length = l.length - lo := by simp
  obtain ⟨a2, c2, e2, hc, hm⟩ := bytes_slen h
  injection e2 with e2 _ e3
  subst e2 e3
  refine ⟨if c = lo then a else a.map (·.add (lo * 1)), c - lo, fun W => ?_, ?_⟩
  · rw [run_sliceAt_slice W _ _ _ _ _ und_bytes, run_slice_l W _ _ _ _ und_bytes _ _ (by omega) (by omega), size_bytes, e]
    simp [sliced, Result.andThen]
  · cases a with
    | none =>
      rcases h with ⟨h, hl⟩ | ⟨_, _, h, _⟩
      · subst hl
        obtain rfl : lo = 0 := by simpa using h1
        injection h with _ _ h
        subst h
        exact Or.inl ⟨rfl, rfl⟩
      · cases h
    | some a =>
      by_cases hcl : c = lo
      · have hll : l.length = lo := by omega
        have hd : l.drop lo = [] := List.drop_eq_nil_of_le (by omega)
        rw [if_pos hcl, hd, hcl, Nat.sub_self]
        refine Or.inr ⟨a, 0, rfl, Nat.le_refl _, by unfold maxLen; omega, Or.inl rfl, fun j u hj => by simp [bv] at hj⟩
      · rw [if_neg hcl, Option.map_some, Nat.mul_one, e]
        exact h.drop lo h1 (by omega)
set_option maxRecDepth 100000 in
set_option maxHeartbeats 2000000 in
theorem split_any (S : Nat → Prop) (v : Value) (l : List UInt8) (w : World) (hS : ∀ k, S k → k < w.heap.size) (h : BytesC S w v l) (hl : l.length ≤ 4194304) :
    Calls Try.prog 19 #[v] w fun e w' => ∃ v', e = .returned v' ∧ OwnS w' w.heap.size v' (linesL l) ∧ Below w.heap.size w w' := by
  obtain ⟨i0, hi, hz0, hz1, hz2⟩ := info_parts Try.info9s
  have HS := Lib.hid hS
  have H := Lib.hid h
  have HR := Lib.hid (Below.refl w.heap.size w)
  clear h hS
  go_enter Try.func19, Try.ntmps19
  go_wp2_with fail
  go_loopw [0, 3] (fun t o wr => ∃ (r : List UInt8) (d : List (List UInt8)), r.length ≤ l.length ∧ d.length + r.length ≤ l.length ∧ Hid (BytesC S wr t r) ∧ Hid (OwnS wr w.heap.size o d) ∧ Hid (d ++ linesL r = linesL l) ∧ Hid (Below w.heap.size w wr)) (fun t _ _ => slenV t)
  case atStart => exact ⟨l, [], Nat.le_refl _, by simp, H, Lib.hid (ownS_nil _ _), Lib.hid rfl, HR⟩
  case round =>
    obtain ⟨r, d, hr, hdr, hB, hO, hE, hW⟩ := hrel
    obtain ⟨oa, oc, rfl⟩ := ownS_slice hO.out
    obtain ⟨ra, rc, rfl, _, _⟩ := bytes_slen hB.out
    by_cases h0 : r = []
    · subst h0
      have HE2 : Hid (d = linesL l) := Lib.hid (by have := hE.out; simpa [linesL] using this)
      go_wp2_with fail
      go_ret
      exact ⟨_, rfl, by rw [← HE2.out]; exact hO.out, hW.out⟩
    · have hpos : 0 < r.length := List.length_pos_iff.2 h0
      have HI := Lib.hid (indexByte_any S _ r 10 wr hB.out)
      have HCS := Lib.hid (index_cases r 10)
      have e10 : ((10 : Int).toNat.toUInt8) = (10 : UInt8) := rfl
      rw [e10] at HI
      generalize Lib.indexByte r 10 = ix at *
      clear e10
      have key : ∃ n : Nat, (ix = -1 ∧ n = r.length ∨ ix = (n : Int) - 1 ∧ 0 < n) ∧ 0 < n ∧ n ≤ r.length ∧ linesL r = r.take n :: linesL (r.drop n) := by
        rcases HCS.out with ⟨h1, h2⟩ | ⟨m, h1, h2, h3, h4⟩
        · exact ⟨r.length, Or.inl ⟨h1, rfl⟩, hpos, Nat.le_refl _, by rw [linesL_last h2 h0]; simp [linesL]⟩
        · refine ⟨m + 1, Or.inr ⟨by omega, by omega⟩, by omega, h2, ?_⟩
          conv => lhs; rw [← List.take_append_drop m r, h4, linesL_end h3]
          rw [show r.take (m + 1) = r.take m ++ [10] from by
            rw [List.take_add, h4]; rfl]
      obtain ⟨n, hix, hn0, hn1, hls⟩ := key
      obtain ⟨ta, tc, hrunH, hcH⟩ := bytes_cutH hB.out hn1
      obtain ⟨ua, uc, hrunL, hcL⟩ := bytes_cutL hB.out hn1
      have hconv := bytes_str hcH
      have HLS := Lib.hid hls
      have HCL := Lib.hid hcL
      have htl : (r.take n).length = n := by simp; omega
      have hdl : (r.drop n).length = r.length - n := by simp
      have HTL := Lib.hid htl
      have HDL := Lib.hid hdl
      have HN : Hid (d ++ [r.take n] ++ linesL (r.drop n) = linesL l) := Lib.hid (by rw [← hE.out, HLS.out]; simp)
      generalize r.take n = x at *
      generalize r.drop n = r2 at *
      clear hcH hcL hls htl hdl
      have hB0 : w.heap.size ≤ wr.heap.size := hW.out.size
      rcases hix with ⟨rfl, rfl⟩ | ⟨rfl, _⟩
      all_goals
        go_wp2_with fail
        refine HI.out.mono ?_
        rintro e w1 ⟨rfl, rfl⟩
        go_wp2_with (at_builtin; refine wpList_own_src _ rfl _ _ 24 24 rfl w.heap.size 9 i0 (.string ByteArray.empty) 1 16 Try.underlying24 hi hz0 hz1 hz2 rfl (by decide) _ _ _ rfl (World.ownsRow.alloc hO.out _) _ 1 [.string ⟨x.toArray⟩] rfl (srcS_one _ _) (by unfold maxLen; omega) (by omega) (by simp; omega) ?_)
        intro v5 w5 hown5 hg5
        have O5 : Hid (OwnS w5 w.heap.size v5 (d ++ [x])) := Lib.hid (ownS_push hown5)
        have B5 : Hid (Below w.heap.size w w5) := Lib.hid ((hW.out.alloc hW.out.size _).grown hg5.gb (by simp; omega) (fun q hq => (World.ownsRow.lt hO.out q hq).1))
        have C5 : Hid (BytesC S w5 (.slice ua r2.length uc) r2) := Lib.hid (HCL.out.kept (fun k hk => ⟨hk, by
          have hkw := HS.out k hk
          rw [hg5.gb.block k (by simp; omega) (fun e => by have := (World.ownsRow.lt hO.out k e.symm).1; omega), Below.heap_alloc _ _ _ (by omega)]⟩))
        have HM : Hid (r2.length < r.length) := Lib.hid (by have := HDL.out; omega)
        have HD5 : Hid ((d ++ [x]).length + r2.length ≤ l.length) := Lib.hid (by have := HDL.out; simp; omega)
        clear hown5 hg5
        go_wp2_with fail
        go_roundw
        case rel => exact ⟨r2, d ++ [x], by have := HM.out; omega, HD5.out, C5, O5, HN, B5⟩
        case measure => exact HM.out
end Go.Proofs.Ytfiogjdjcocbnaa
