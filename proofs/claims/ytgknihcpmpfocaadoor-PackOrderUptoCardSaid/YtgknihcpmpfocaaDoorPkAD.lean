/- Records framed, and frames read again (mathematics). The walk of frame. bytes.HasPrefix; the head of the walk of first. The walk of first. -/
import Derived.Test.YtgknihcpmpfocaaDoorShaAF
import Derived.Test.YtgknihcpmpfocaaDoorShaLP
import Derived.Laws.MakeOwn
import Derived.StillTailTactics
import Derived.Test.YtgknihcpmpfocaaDoorShelf
import Derived.Test.YtgknihcpmpfocaaDoorShelfQ
import Derived.Deep.RegionWith
namespace Go.Proofs.YtgknihcpmpfocaaDoor
def be4 (n : Nat) : List UInt8 := [(n / 16777216 % 256).toUInt8, (n / 65536 % 256).toUInt8, (n / 256 % 256).toUInt8, (n % 256).toUInt8]
def num4 (b : List UInt8) : Nat := (b.take 4).foldl (fun a c => a * 256 + c.toNat) 0
def headL (s : List UInt8) : List UInt8 := be4 s.length ++ (sumN s).take 8
def frameL (s : List UInt8) : List UInt8 := headL s ++ s
/-- The size of the record of the frame with which some bytes begin. -/
def firstN (b : List UInt8) : Option Nat :=
  if b.length < 12 then none
  else if 524288 < num4 b ∨ b.length - 12 < num4 b then none
  else if (sumN ((b.drop 12).take (num4 b))).take 8 = (b.drop 4).take 8 then some (num4 b) else none
theorem firstN_some {b : List UInt8} {n : Nat} (h : firstN b = some n) : 12 + n ≤ b.length ∧ n ≤ 524288 ∧ n = num4 b ∧ (sumN ((b.drop 12).take n)).take 8 = (b.drop 4).take 8 := by
  unfold firstN at h
  split at h
  · cases h
  · split at h
    · cases h
    · split at h
      · injection h with h
        subst h
        refine ⟨by omega, by omega, rfl, ?_⟩
        assumption
      · cases h
/-- The records with which some bytes begin. -/
def scanL (b : List UInt8) : List (List UInt8) :=
  match h : firstN b with
  | none => []
  | some n => (b.drop 12).take n :: scanL (b.drop (12 + n))
termination_by b.length
decreasing_by
  have := (firstN_some h).1
  rw [List.length_drop]; omega
theorem scanL_none {b : List UInt8} (h : firstN b = none) : scanL b = [] := by
  rw [scanL]
  split
  · rfl
  · rename_i h2; rw [h] at h2; cases h2
theorem scanL_some {b : List UInt8} {n : Nat} (h : firstN b = some n) : scanL b = (b.drop 12).take n :: scanL (b.drop (12 + n)) := by
  rw [scanL]
  split
  · rename_i h2; rw [h] at h2; cases h2
  · rename_i m h2; rw [h] at h2; injection h2 with h2; subst h2; rfl
def framesL (l : List (List UInt8)) : List UInt8 := (l.map frameL).flatten
def endL (b : List UInt8) : Nat := (framesL (scanL b)).length
theorem be4_len (n : Nat) : (be4 n).length = 4 := rfl
theorem pk_u8 {x : Nat} (h : x < 256) : (x.toUInt8).toNat = x := by rw [Nat.toUInt8, UInt8.toNat_ofNat']; omega
theorem num4_be4 {n : Nat} (h : n < 4294967296) (t : List UInt8) : num4 (be4 n ++ t) = n := by
  unfold num4 be4
  show (((0 * 256 + _) * 256 + _) * 256 + _) * 256 + _ = n
  rw [pk_u8 (by omega), pk_u8 (by omega), pk_u8 (by omega), pk_u8 (by omega)]
  omega
theorem num4_lt (b : List UInt8) : num4 b < 4294967296 := by
  unfold num4
  match b with
  | [] => simp
  | [a] => have := a.toNat_lt; simp; omega
  | [a, c] => have := a.toNat_lt; have := c.toNat_lt; simp; omega
  | [a, c, d] => have := a.toNat_lt; have := c.toNat_lt; have := d.toNat_lt; simp; omega
  | a :: c :: d :: e :: r => have := a.toNat_lt; have := c.toNat_lt; have := d.toNat_lt; have := e.toNat_lt; simp; omega
theorem be4_num4 {b : List UInt8} (h : 4 ≤ b.length) : be4 (num4 b) = b.take 4 := by
  match b, h with
  | a :: c :: d :: e :: r, _ =>
    have h1 := a.toNat_lt; have h2 := c.toNat_lt; have h3 := d.toNat_lt; have h4 := e.toNat_lt
    unfold num4 be4
    simp only [List.take_succ_cons, List.take_zero, List.foldl_cons, List.foldl_nil]
    have key : ∀ (x : Nat) (u : UInt8), x = u.toNat → x.toUInt8 = u := fun x u e => by
      apply UInt8.toNat_inj.1
      rw [Nat.toUInt8, UInt8.toNat_ofNat', e]
      have := u.toNat_lt; omega
    rw [key _ a (by omega), key _ c (by omega), key _ d (by omega), key _ e (by omega)]
theorem headL_len (s : List UInt8) : (headL s).length = 12 := by
  unfold headL
  rw [List.length_append, be4_len, List.length_take, sumN_len]; rfl
theorem frameL_len (s : List UInt8) : (frameL s).length = 12 + s.length := by unfold frameL; rw [List.length_append, headL_len]
/-- A frame is read again. -/
theorem firstN_frame {s : List UInt8} (hs : s.length ≤ 524288) (t : List UInt8) : firstN (frameL s ++ t) = some s.length := by
  have hl : (frameL s ++ t).length = 12 + s.length + t.length := by rw [List.length_append, frameL_len]
  have hn : num4 (frameL s ++ t) = s.length := by
    unfold frameL headL
    rw [List.append_assoc, List.append_assoc]
    exact num4_be4 (by omega) _
  have hd : (frameL s ++ t).drop 12 = s ++ t := by
    unfold frameL
    rw [List.append_assoc, List.drop_left' (headL_len s)]
  have h4 : ((frameL s ++ t).drop 4).take 8 = (sumN s).take 8 := by
    unfold frameL headL
    rw [List.append_assoc, List.append_assoc, List.drop_left' (be4_len _)]
    exact List.take_left' (by rw [List.length_take, sumN_len]; rfl)
  unfold firstN
  rw [hn, hd, h4, List.take_left' rfl, if_neg (by omega), if_neg (by omega), if_pos rfl]
theorem scanL_frame {s : List UInt8} (hs : s.length ≤ 524288) (t : List UInt8) : scanL (frameL s ++ t) = s :: scanL t := by
  rw [scanL_some (firstN_frame hs t)]
  have hd : (frameL s ++ t).drop 12 = s ++ t := by
    unfold frameL
    rw [List.append_assoc, List.drop_left' (headL_len s)]
  rw [hd, List.take_left' rfl, List.drop_left' (frameL_len s)]
theorem scanL_nil : scanL [] = [] := scanL_none (by unfold firstN; rw [if_pos (by decide)])
theorem framesL_cons (s : List UInt8) (r : List (List UInt8)) : framesL (s :: r) = frameL s ++ framesL r := rfl
theorem framesL_append (a b : List (List UInt8)) : framesL (a ++ b) = framesL a ++ framesL b := by unfold framesL; rw [List.map_append, List.flatten_append]
theorem scanL_frames {l : List (List UInt8)} (h : ∀ s ∈ l, s.length ≤ 524288) (t : List UInt8) : scanL (framesL l ++ t) = l ++ scanL t := by
  induction l with
  | nil => rfl
  | cons s r ih =>
    rw [framesL_cons, List.append_assoc, scanL_frame (h s List.mem_cons_self), ih (fun x hx => h x (List.mem_cons_of_mem _ hx))]
    rfl
/-- What was read are frames, one behind the other, and then what is none. -/
theorem scan_split_n (n : Nat) : ∀ (b : List UInt8), b.length ≤ n → (∀ s ∈ scanL b, s.length ≤ 524288) ∧ framesL (scanL b) ++ b.drop (endL b) = b ∧ firstN (b.drop (endL b)) = none := by
  induction n with
  | zero =>
    intro b hn
    have hb : b = [] := List.length_eq_zero_iff.1 (by omega)
    subst hb
    have h : firstN [] = none := by unfold firstN; rw [if_pos (by decide)]
    have e := scanL_none h
    unfold endL
    rw [e]
    exact ⟨fun s hs => (by cases hs), rfl, h⟩
  | succ n ih =>
    intro b hn
    cases h : firstN b with
    | none =>
      have e := scanL_none h
      unfold endL
      rw [e]
      exact ⟨fun s hs => (by cases hs), rfl, h⟩
    | some m =>
      have e := scanL_some h
      obtain ⟨h1, h2, h3, h4⟩ := firstN_some h
      obtain ⟨i1, i2, i3⟩ := ih (b.drop (12 + m)) (by rw [List.length_drop]; omega)
      have hf : frameL ((b.drop 12).take m) = b.take (12 + m) := by
        have hlen : ((b.drop 12).take m).length = m := by rw [List.length_take, List.length_drop]; omega
        unfold frameL headL
        rw [hlen, h4, h3, be4_num4 (by omega)]
        have e1 : b.take 4 ++ (b.drop 4).take 8 = b.take 12 := by
          have := List.take_append_drop 4 (b.take 12)
          rw [List.take_take, List.drop_take] at this
          simpa using this
        rw [e1, ← List.take_add]
      have hend : endL b = (12 + m) + endL (b.drop (12 + m)) := by
        unfold endL
        rw [e, framesL_cons, List.length_append, hf, List.length_take]
        omega
      refine ⟨fun s hs => ?_, ?_, ?_⟩
      · rw [e] at hs
        rcases List.mem_cons.1 hs with rfl | hs
        · rw [List.length_take]; omega
        · exact i1 s hs
      · rw [hend, ← List.drop_drop, e, framesL_cons, List.append_assoc, i2, hf, List.take_append_drop]
      · rw [hend, ← List.drop_drop]; exact i3
theorem scan_split (b : List UInt8) : (∀ s ∈ scanL b, s.length ≤ 524288) ∧ framesL (scanL b) ++ b.drop (endL b) = b ∧ firstN (b.drop (endL b)) = none := scan_split_n b.length b (Nat.le_refl _)
theorem endL_le (b : List UInt8) : endL b ≤ b.length := by
  have h := congrArg List.length (scan_split b).2.1
  rw [List.length_append] at h
  unfold endL at *
  omega
end Go.Proofs.YtgknihcpmpfocaaDoor
namespace Go.Proofs.YtgknihcpmpfocaaDoor
open Go.RowKit
attribute [local simp high] id_size id_zero

/-- A frame's head in the making: k bytes of the length are written. -/
structure Hd (n k : Nat) (c : List UInt8) : Prop where
  len : c.length = 12 + n
  put : ∀ j, j < k → c[3 - j]? = some (UInt8.ofNat (n / 256 ^ j % 256))
theorem Hd.set {n k : Nat} {c : List UInt8} (h : Hd n k c) (hk : k < 4) : Hd n (k + 1) (c.set (3 - k) (UInt8.ofNat (n / 256 ^ k % 256))) := by
  refine ⟨by rw [List.length_set]; exact h.len, fun j hj => ?_⟩
  have hl := h.len
  rw [List.getElem?_set]
  by_cases e : j = k
  · subst e; rw [if_pos rfl, if_pos (by omega)]
  · rw [if_neg (by omega)]; exact h.put j (by omega)
theorem Hd.done {n : Nat} {c : List UInt8} (h : Hd n 4 c) : c.take 4 = be4 n := by
  have h0 := h.put 0 (by omega)
  have h1 := h.put 1 (by omega)
  have h2 := h.put 2 (by omega)
  have h3 := h.put 3 (by omega)
  have hl := h.len
  match c, hl with
  | a :: b :: d :: e :: r, _ =>
    simp at h0 h1 h2 h3
    unfold be4
    rw [h0, h1, h2, h3]
    rfl
def noughts (n : Nat) : List UInt8 := List.replicate n 0
theorem bv_noughts (n : Nat) : madeCells #[.int .u8 0] n = (bv (noughts n)).toArray := by
  apply Array.toList_inj.1
  apply List.ext_getElem?
  intro j
  unfold madeCells noughts bv
  simp only [List.map_replicate, List.getElem?_replicate]
  by_cases hj : j < n
  · rw [if_pos hj]; simp [hj, Nat.mod_one]
  · rw [if_neg hj]; simp; omega
theorem b8_info : ∃ i, Tryd.prog.info? 5 = some i ∧ i.zero = some (.int .u8 0) ∧ i.size = 1 ∧ i.bytes = 1 := by
  have h := Tryd.info5
  cases e : Tryd.prog.info? 5 with
  | none => rw [e] at h; cases h
  | some i =>
    rw [e] at h; injection h with h
    simp only [Prod.mk.injEq] at h
    exact ⟨i, rfl, h⟩
theorem make_head (n : Nat) (hn : n ≤ 524288) (W : World) : (Instr.makeSlice 22 (.int .i64 12) (.int .i64 (12 + (n : Int)))).run Tryd.prog W = .ok (.slice (some ⟨W.heap.size, 0, none⟩) 12 (12 + n)) (W.alloc (.cells (bv (noughts (12 + n))).toArray 5)) := by
  obtain ⟨i, hi, e1, e2, e3⟩ := b8_info
  have h := run_make (P := Tryd.prog) W 22 5 i (.int .u8 0) Tryd.underlying22 hi e1 .i64 .i64 12 ((12 + n : Nat) : Int) (by omega) (by omega) (by rw [e3]; omega) (by omega)
  rw [show (12 + (n : Int)) = ((12 + n : Nat) : Int) by omega, h, e2, Nat.mul_one]
  rw [show (Value.int .u8 0).cells = #[.int .u8 0] from rfl, Int.toNat_natCast, bv_noughts]
  rfl
set_option maxRecDepth 100000 in
set_option maxHeartbeats 4000000 in
theorem frame_any (S : Nat → Prop) (O l : List UInt8) (v : Value) (w : World) (hO : O.length = 32) (h : BytesC S w v l) (hS : ∀ k, S k → k < w.heap.size) (hl : l.length ≤ 524288) :
    Calls Tryd.prog 35 #[.agg (bv O).toArray, v] w fun e w' => ∃ u, e = .returned u ∧ BytesC (fun k => w.heap.size ≤ k ∧ k < w'.heap.size) w' u (be4 l.length ++ O.take 8 ++ l) ∧ Below w.heap.size w w' := by
  have HS := Lib.hid hS
  have H := Lib.hid h
  have HO := Lib.hid hO
  have HL := Lib.hid hl
  obtain ⟨a, ca, rfl⟩ := h.shape
  have hi2 : IDAt (w.alloc (.cells (bv O).toArray 44)) w.heap.size O := ⟨hO, new_five w _ _⟩
  have HI2 := Lib.hid hi2
  have HB1 := Lib.hid ((Below.refl w.heap.size w).alloc (Nat.le_refl _) (.cells (bv O).toArray 44))
  have zo : (bv O).length = n32 := by rw [bv_len, hO]; rfl
  obtain ⟨n, hn⟩ : ∃ n, l.length = n := ⟨_, rfl⟩
  rw [hn] at hl HL
  have h12 : IntKind.i64.wrap ((12 : Int) + (n : Int)) = (12 : Int) + (n : Int) := IntWalk.i64_in _ (by omega)
  have hmk := make_head n hl
  clear h hS hi2 hO hl
  rw [hn]
  go_enter Tryd.func35, Tryd.ntmps35
  go_upto_region 1 with fail
  have hsz1 : (w.alloc (.cells (bv O).toArray 44)).heap.size = w.heap.size + 1 := by simp
  generalize w.alloc (.cells (bv O).toArray 44) = w1 at *
  go_upto_region 2 with fail
  have hr3 := RowAt.new w1 5 (bv (noughts (12 + n)))
  rw [hsz1] at hr3
  have HI3 := Lib.hid (HI2.out.kept (Below.heap_alloc w1 (.cells (bv (noughts (12 + n))).toArray 5) w.heap.size (by omega)))
  have HB3 := Lib.hid (HB1.out.alloc HB1.out.size (.cells (bv (noughts (12 + n))).toArray 5))
  have HR3 := Lib.hid hr3
  have hsz2 : (w1.alloc (.cells (bv (noughts (12 + n))).toArray 5)).heap.size = w.heap.size + 2 := by simp [hsz1]
  generalize w1.alloc (.cells (bv (noughts (12 + n))).toArray 5) = w2 at *
  obtain ⟨b1, hb1⟩ : ∃ b1, b1 = w.heap.size := ⟨_, rfl⟩
  obtain ⟨bo, hbo⟩ : ∃ bo, bo = w.heap.size + 1 := ⟨_, rfl⟩
  have hd1 : w.heap.size ≤ b1 := by omega
  have hd2 : b1 < bo := by omega
  have hd3 : bo < w2.heap.size := by omega
  clear hr3 hmk h12 HB1 HI2
  rw [← hbo] at HR3 ⊢
  rw [← hb1] at HI3
  rw [show (Value.pointer (some { block := w.heap.size, off := 0 }) : Value) = .pointer (some ⟨b1, 0, none⟩) by rw [hb1]]
  clear hb1 hbo
  go_wp2_with fail
  go_loopw [6, 14] (fun x i wr => ∃ (k q : Nat) (c : List UInt8), k ≤ 4 ∧ i = .int .i64 k ∧ q = n / 256 ^ k ∧ x = .int .i64 (q : Int) ∧ RowAt wr bo 5 (bv c) ∧ Hd n k c ∧ IDAt wr b1 O ∧ Below w.heap.size w wr ∧ w2.heap.size ≤ wr.heap.size) (fun _ i _ => 4 - (intOf i).toNat)
  case atStart => exact ⟨0, n, noughts (12 + n), by omega, rfl, by simp, rfl, HR3.out, ⟨by unfold noughts; simp, fun j hj => by omega⟩, HI3.out, HB3.out, Nat.le_refl _⟩
  case round =>
    obtain ⟨k, q, c, hk, rfl, hq, rfl, hrr, hhd, hri, hrb, hrz⟩ := hrel
    have HRR := Lib.hid hrr
    have HHD := Lib.hid hhd
    have HRI := Lib.hid hri
    have HRB := Lib.hid hrb
    have hln := hhd.len
    have hcl : (bv c).length = 12 + n := by rw [bv_len, hln]
    have HQ := Lib.hid hq
    clear hri hrb hhd hq
    by_cases hlt : k < 4
    · have hd : decide ((k : Int) < 4) = true := decide_eq_true (by omega)
      have hz3 : IntKind.i64.wrap ((3 : Int) - (k : Int)) = ((3 - k : Nat) : Int) := by rw [IntWalk.i64_in _ (by omega)]; omega
      have hin : 3 - k < 12 := by omega
      obtain ⟨m, hm⟩ : ∃ m, m = 3 - k := ⟨_, rfl⟩
      rw [← hm] at hz3 hin
      have hc := hrr.cell m
      have hf := hrr.free m
      obtain ⟨u, hu⟩ : ∃ u, (bv c)[m]? = some u := ⟨_, List.getElem?_eq_getElem (by omega)⟩
      rw [hu] at hc
      have HM := Lib.hid hm
      clear hu hm
      go_upto_region 7 with fail
      obtain ⟨c', hc', hb'⟩ : ∃ c', c' = c.set m (UInt8.ofNat (q % 256)) ∧ RowAt (wr.setCell ⟨bo, m, none⟩ (.int .u8 ((q % 256 : Nat) : Int))) bo 5 (bv c') := ⟨_, rfl, by rw [← bv_set c m (q % 256) (by omega)]; exact hrr.set m _⟩
      have R4 : Hid (RowAt (wr.setCell ⟨bo, m, none⟩ (.int .u8 ((q % 256 : Nat) : Int))) bo 5 (bv c')) := Lib.hid hb'
      have D4 : Hid (Hd n (k + 1) c') := Lib.hid (by rw [hc', HM.out, HQ.out]; exact HHD.out.set hlt)
      have I4 := Lib.hid (HRI.out.kept (w' := wr.setCell ⟨bo, m, none⟩ (.int .u8 ((q % 256 : Nat) : Int))) (heap_setCell_other _ _ _ _ (by simp; omega)))
      have B4 := Lib.hid (HRB.out.setCell (p := ⟨bo, m, none⟩) (show w.heap.size ≤ bo by omega) (.int .u8 ((q % 256 : Nat) : Int)))
      have hsz4 : (wr.setCell ⟨bo, m, none⟩ (.int .u8 ((q % 256 : Nat) : Int))).heap.size = wr.heap.size := by simp
      clear hc hf hc' hb' hrr
      rw [show ((q : Int) % 256) = ((q % 256 : Nat) : Int) by omega]
      generalize wr.setCell ⟨bo, m, none⟩ (.int .u8 ((q % 256 : Nat) : Int)) = w4 at *
      clear HRR HHD HRI HRB hcl hln hz3 hin hd
      go_wp2_with fail
      go_roundw
      case rel => exact ⟨k + 1, q / 256, c', by omega, by go_num, by rw [HQ.out, Nat.div_div_eq_div_mul, Nat.pow_succ], by go_num, R4.out, D4.out, I4.out, B4.out, by omega⟩
      case measure => simp [intOf]; omega
    · have hd : decide ((k : Int) < 4) = false := decide_eq_false (by omega)
      obtain rfl : k = 4 := by omega
      go_upto_region 9 with fail
      clear hln hcl hrr hd HQ
      go_still_tail 3, (by kernel_rfl)
      change wpList _ _ _ _ _ wr.drew
      have R5 : Hid (RowAt wr.drew bo 5 (bv c)) := Lib.hid (HRR.out.kept rfl)
      have I5 : Hid (IDAt wr.drew b1 O) := Lib.hid (HRI.out.kept rfl)
      have B5 := Lib.hid (HRB.out.trans (show Below w.heap.size wr wr.drew from ⟨rfl, rfl, rfl, Nat.le_refl _, fun _ _ => rfl⟩))
      generalize wr.drew = w5 at *
      rw [if_neg (by omega)]
      have hnm : (bv (O.take 8)).length = Nat.min 32 8 := by rw [bv_len, List.length_take, HO.out]; rfl
      have HNM := Lib.hid hnm
      clear hnm
      refine wpList_copy_splice (o := ⟨some 29, _, _, _, _, _⟩) rfl (.tmp 27) (.tmp 28) 22 22 rfl 5 Tryd.underlying22 b8_size (some ⟨bo, 4, none⟩) (some ⟨b1, 0, none⟩) 8 (12 + n - 4) 32 32 rfl rfl bo 4 (bv c) 5 R5.out.blk (bv (O.take 8)) HNM.out ?c1 ?c2 ?c3 w.heap.size w B5.out (by omega) ?_
      case c1 =>
        intro _
        refine ⟨rfl, _, rfl, fun j u hj => ?_⟩
        rw [bv_take, List.getElem?_take] at hj
        split at hj
        · have hlj : j < O.length := by rw [HO.out]; omega
          rw [Addr.add_mid, Nat.zero_add, I5.out.cell j hlj, ← hj]
          exact (bv_at (l := O) hlj).symm.trans (by simp)
        · cases hj
      case c2 => have := HHD.out.len; rw [bv_len, bv_len, List.length_take, HO.out]; omega
      case c3 => exact bv_one _
      intro w6 hg6 hb6
      have e6 : splice (bv c) 4 (bv (O.take 8)) = bv (be4 n ++ (O.take 8 ++ c.drop 12)) := by
        have e : (bv (O.take 8)).length = 8 := by rw [bv_len, List.length_take, HO.out]; rfl
        unfold splice
        rw [e, ← HHD.out.done]
        simp only [bv_append, bv_take, bv_drop]
      have hol : (O.take 8).length = 8 := by rw [List.length_take, HO.out]; rfl
      have OWN : Hid (w6.ownsRow w.heap.size 5 1 (.slice (some ⟨bo, 0, none⟩) 12 (12 + n)) 12 (bv (be4 n ++ O.take 8))) := Lib.hid (by
        refine ⟨by rw [bv_len, List.length_append, be4_len, hol], Or.inr ⟨bo, 12 + n, _, rfl, by omega, hg6.out, by omega, by have := HL.out; unfold maxLen; omega, ?_, ?_⟩⟩
        · have := HHD.out.len
          rw [e6]
          simp only [List.size_toArray, bv_len, List.length_append, be4_len, hol, List.length_drop]
          omega
        · rw [e6]
          rw [← List.append_assoc, bv_append, List.take_left' (by rw [bv_len, List.length_append, be4_len, hol])])
      have hz6 := hb6.size
      have B6 := Lib.hid hb6
      have SRC : Hid (Src Tryd.prog 1 22 (.slice a n ca) n (bv l) w6) := Lib.hid (by
        have := (H.out.kept (S' := S) (w' := w6) (fun j hj => ⟨hj, hb6.block j (HS.out j hj)⟩)).srcC
        rw [hn] at this
        exact this)
      have hn12 : n ≤ 524288 := HL.out
      clear hg6 hb6 e6 hol HNM R5 I5 B5
      obtain ⟨i0, hi, hz0, hz1, hz2⟩ := b8_info
      have HN12 := Lib.hid hn12
      clear hn12
      go_wp2_with (at_builtin; refine wpList_own_src _ rfl _ _ 22 22 rfl w.heap.size 5 i0 (.int .u8 0) 1 1 Tryd.underlying22 hi hz0 hz1 hz2 rfl (by decide) _ _ _ rfl OWN.out _ n (bv l) rfl SRC.out (by have := HN12.out; unfold maxLen; omega) (by have := HN12.out; omega) (by omega) ?_)
      intro v7 w7 hown7 hg7
      have B7 : Hid (Below w.heap.size w w7) := Lib.hid (B6.out.grown hg7.gb hz6 (fun k hk => by
        have e : bo = k := by simpa [Value.ownBlock] using hk
        omega))
      have C7 : Hid (BytesC (fun k => w.heap.size ≤ k ∧ k < w7.heap.size) w7 v7 (be4 n ++ O.take 8 ++ l)) := Lib.hid (own_c (by
        have e : (be4 n ++ O.take 8 ++ l).length = 12 + n := by
          rw [List.length_append, List.length_append, be4_len, List.length_take, HO.out, hn]; omega
        unfold Own
        rw [e, bv_append]
        exact hown7))
      clear hown7 hg7 OWN SRC
      go_wp2_with fail
      go_ret
      exact ⟨v7, rfl, C7.out, B7.out⟩
end Go.Proofs.YtgknihcpmpfocaaDoor
namespace Go.Proofs.YtgknihcpmpfocaaDoor
open Go.RowKit
theorem u8_list_eq (l r : List UInt8) : ((⟨l.toArray⟩ : ByteArray).toList == (⟨r.toArray⟩ : ByteArray).toList) = decide (l = r) := by
  rw [ByteArray.toList_eq, ByteArray.toList_eq, Bool.eq_iff_iff]
  simp
theorem prefix_any (S : Nat → Prop) (v1 v2 : Value) (l1 l2 : List UInt8) (w : World) (h1 : BytesC S w v1 l1) (h2 : BytesC S w v2 l2) (hl : l2.length ≤ l1.length) (h0 : 0 < l1.length) :
    Calls Tryd.prog 57 #[v1, v2] w fun e w' => e = .returned (.bool (decide (l1.take l2.length = l2))) ∧ w' = w := by
  obtain ⟨a1, c1, rfl⟩ : ∃ a1 c1, v1 = .slice (some a1) l1.length c1 := by
    rcases h1 with ⟨_, e⟩ | ⟨a, c, e, _⟩
    · rw [e] at h0; simp at h0
    · exact ⟨a, c, e⟩
  obtain ⟨a2, c2, rfl⟩ := h2.shape
  have hcc : l1.length ≤ c1 := by
    rcases h1 with ⟨_, e⟩ | ⟨a, c, e, e2, _⟩
    · rw [e] at h0; simp at h0
    · injection e with _ _ e; subst e; exact e2
  have s1 := bytes_str (cut_c h1 l2.length hl)
  have s2 := bytes_str h2
  have he := Tryd.bytes_Equal_strs _ _ _ _ w s1 s2
  rw [u8_list_eq] at he
  have hc2 : l2.length ≤ c1 := by omega
  clear h1 h2 s1 s2 h0 hcc
  obtain ⟨t, ht⟩ : ∃ t, t = decide (l1.take l2.length = l2) := ⟨_, rfl⟩
  rw [← ht] at he ⊢
  clear ht
  generalize l1.length = n1 at *
  generalize l2.length = n2 at *
  have HE := Lib.hid he
  have hg : decide (n1 ≥ n2) = true := decide_eq_true hl
  clear he
  go_enter Tryd.func57, Tryd.ntmps57
  go_wp2_with fail
  refine HE.out.mono ?_
  rintro e w' ⟨rfl, rfl⟩
  go_wp2_with fail
  go_ret
  exact ⟨rfl, rfl⟩
end Go.Proofs.YtgknihcpmpfocaaDoor
namespace Go.Proofs.YtgknihcpmpfocaaDoor
open Go.RowKit
attribute [local simp high] id_size id_zero

def FirstP (w : World) (b : List UInt8) (e : Ending) (w' : World) : Prop :=
  ∃ (X : List UInt8) (m : Nat), X.length = 32 ∧ e = .returned (.tuple #[.agg (bv X).toArray, .int .i64 (m : Int), .bool (firstN b).isSome]) ∧ (∀ n, firstN b = some n → m = n ∧ X = sumN ((b.drop 12).take n)) ∧ Below w.heap.size w w'
theorem results_id3 {fn : Func} {p u x : Tmp} (h : fn.results = #[.cell p 44, .tmp u, .tmp x]) (tmps : Array Value) (w : World) {b : Nat} {l : List UInt8} {y z : Value} (hp : tmps.getD p undef = .pointer (some ⟨b, 0, none⟩)) (hy : tmps.getD u undef = y) (hz : tmps.getD x undef = z) (hI : IDAt w b l) :
    (results fn tmps).run Tryd.prog w = .ok (.tuple #[.agg (bv l).toArray, y, z]) w := by
  have := run_loadVar_row (P := Tryd.prog) w b 44 44 (bv l).toArray (0, 0) _ hI.blk Tryd.under44' rfl (by rw [bv_size hI.len]; exact Tryd.size44)
  have hp' : tmps[p]?.getD undef = .pointer (some ⟨b, 0, none⟩) := by simpa using hp
  have hy' : tmps[u]?.getD undef = y := by simpa using hy
  have hz' : tmps[x]?.getD undef = z := by simpa using hz
  simp only [results, h]
  simp [hp', hy', hz', asAddr, this]
set_option maxRecDepth 100000 in
set_option maxHeartbeats 4000000 in
theorem first_short (v : Value) (b : List UInt8) (w : World) (S : Nat → Prop) (h : BytesC S w v b) (hl : b.length < 12) : Calls Tryd.prog 47 #[v] w (FirstP w b) := by
  have hn : firstN b = none := by unfold firstN; rw [if_pos hl]
  have HN := Lib.hid hn
  obtain ⟨a, ca, rfl⟩ := h.shape
  have hd : decide ((b.length : Int) < 12) = true := decide_eq_true (by omega)
  have hi2 := IDAt.new w
  have HI2 := Lib.hid hi2
  have HB1 := Lib.hid ((Below.refl w.heap.size w).alloc (Nat.le_refl _) (.cells (bv zeros).toArray 44))
  clear h hi2 hn
  generalize b.length = n at *
  go_enter Tryd.func47, Tryd.ntmps47
  go_upto_region 1 with fail
  generalize w.alloc (.cells (bv zeros).toArray 44) = w1 at *
  have c1 := HI2.out.write (l := zeros) rfl
  have HI3 := Lib.hid (HI2.out.put (l := zeros) rfl)
  have HB3 := Lib.hid (below_setRow HB1.out (Nat.le_refl _) (bv zeros).toArray)
  have zl := zeros_len
  go_wp2_with fail
  exact bodyPost_ret (v := .tuple #[.agg (bv zeros).toArray, .int .i64 ((0 : Nat) : Int), .bool false]) (results_id3 rfl _ _ rfl rfl rfl HI3.out) rfl ⟨zeros, 0, rfl, by rw [HN.out]; rfl, fun n hn => (by rw [HN.out] at hn; cases hn), HB3.out⟩
/-- The number that the first bytes tell. -/
def partF (b : List UInt8) (k : Nat) : Nat := (b.take k).foldl (fun a c => a * 256 + c.toNat) 0
theorem partF_succ {b : List UInt8} {k : Nat} (h : k < b.length) : partF b (k + 1) = partF b k * 256 + b[k].toNat := by
  unfold partF
  rw [List.take_succ_eq_append_getElem h, List.foldl_append]; rfl
theorem partF_lt (b : List UInt8) (k : Nat) : partF b k < 256 ^ k := by
  induction k with
  | zero => simp [partF]
  | succ k ih =>
    by_cases h : k < b.length
    · rw [partF_succ h, Nat.pow_succ]; have := b[k].toNat_lt; omega
    · have e : partF b (k + 1) = partF b k := by unfold partF; rw [List.take_of_length_le (by omega), List.take_of_length_le (by omega)]
      rw [e, Nat.pow_succ]; omega
set_option maxRecDepth 100000 in
set_option maxHeartbeats 4000000 in
theorem slice_4_12 (aa : Addr) (n ca : Nat) (h : 12 ≤ n) (hc : n ≤ ca) (W : World) : (Instr.sliceAt 22 (.slice (some aa) n ca) (some (.int .i64 4)) (some (.int .i64 12)) none).run Tryd.prog W = .ok (.slice (some (aa.add 4)) 8 (ca - 4)) W := by
  have e : ¬ ca = 4 := by omega
  rw [run_sliceAt_slice W _ _ _ _ _ und_bytes, run_slice_lh W _ _ _ _ und_bytes _ _ _ _ (by omega) (by omega) (by omega), elem_bytes, Tryd.sizeOf5]
  simp [sliced, Result.andThen, e]
theorem tail_some {S : Nat → Prop} {w : World} {aa : Addr} {q : List UInt8} {qc n : Nat} (h : BytesC S w (.slice (some aa) q.length qc) q) (hn : n ≤ q.length) :
    ∃ (a' : Addr) (c' : Nat), (∀ W, (Instr.sliceAt 22 (.slice (some aa) q.length qc) (some (.int .i64 (n : Int))) none none).run Tryd.prog W = .ok (.slice (some a') (q.drop n).length c') W) ∧ BytesC S w (.slice (some a') (q.drop n).length c') (q.drop n) ∧ (q.drop n).length ≤ c' := by
  obtain ⟨a', c', h1, h2⟩ := tail_run h hn
  have h3 := h1 w
  have hsome : ∃ a2, a' = some a2 := by
    cases a' with
    | some a2 => exact ⟨a2, rfl⟩
    | none =>
      exfalso
      rw [run_sliceAt_slice w _ _ _ _ _ und_bytes] at h3
      rw [run_slice_l w _ _ _ _ und_bytes _ _ (by omega) (by omega), elem_bytes, Tryd.sizeOf5] at h3
      simp [sliced, Result.andThen] at h3
      have h4 := h3.1
      split at h4 <;> cases h4
  obtain ⟨a2, rfl⟩ := hsome
  refine ⟨a2, c', h1, h2, ?_⟩
  rcases h2 with ⟨e, _⟩ | ⟨a3, c3, e, e2, _⟩
  · cases e
  · injection e with _ _ e; subst e; exact e2
set_option maxRecDepth 100000 in
set_option maxHeartbeats 4000000 in
theorem first_long (aa : Addr) (ca : Nat) (b : List UInt8) (w : World) (S : Nat → Prop) (hS : ∀ k, S k → k < w.heap.size) (h : BytesC S w (.slice (some aa) b.length ca) b) (hl : 12 ≤ b.length) (hE : Env w) : Calls Tryd.prog 47 #[.slice (some aa) b.length ca] w (FirstP w b) := by
  have hbl0 := h
  have hl0 := hl
  have hbl : BytesC S w (.slice (some aa) b.length ca) b := h
  obtain ⟨n, hn⟩ : ∃ n, b.length = n := ⟨_, rfl⟩
  have HN := Lib.hid hn
  rw [hn] at hl h hbl ⊢
  have HS := Lib.hid hS
  have H := Lib.hid h
  have HE := Lib.hid hE
  obtain ⟨a8, c8, hs8, hb8, hc8⟩ := tail_some (n := 12) hbl0 hl0
  have hdl : (b.drop 12).length = n - 12 := by rw [List.length_drop, hn]
  rw [hdl, hn] at hs8
  rw [hdl] at hb8 hc8
  have B8 := Lib.hid (hb8.alloc hS (.cells (bv zeros).toArray 44))
  have hs8' : ∀ W, (Instr.sliceAt 22 (.slice (some aa) n ca) (some (.int .i64 12)) none none).run Tryd.prog W = .ok (.slice (some a8) (n - 12) c8) W := hs8
  have hca : n ≤ ca := by
    rcases h with ⟨e, _⟩ | ⟨a, c, e, e2, _⟩
    · cases e
    · injection e with _ _ e; subst e; omega
  have hd : decide ((n : Int) < 12) = false := decide_eq_false (by omega)
  have hi2 := IDAt.new w
  have HI2 := Lib.hid hi2
  have HB1 := Lib.hid ((Below.refl w.heap.size w).alloc (Nat.le_refl _) (.cells (bv zeros).toArray 44))
  have H1 := Lib.hid (h.alloc hS (.cells (bv zeros).toArray 44))
  clear h hi2 hS hE hn hbl hbl0 hl0 hs8 hb8 hdl
  go_enter Tryd.func47, Tryd.ntmps47
  go_upto_region 1 with fail
  have hsz1 : (w.alloc (.cells (bv zeros).toArray 44)).heap.size = w.heap.size + 1 := by simp
  generalize w.alloc (.cells (bv zeros).toArray 44) = w1 at *
  go_upto_region 4 with fail
  clear hd
  have h4 : (4 : Nat) ≤ ca := by omega
  go_wp2_with fail
  go_loopw [5, 17] (fun x i wr => ∃ (k : Nat), k ≤ 4 ∧ i = .int .i64 k ∧ x = .int .u32 (partF b k : Nat) ∧ wr = w1) (fun _ i _ => 4 - (intOf i).toNat)
  case atStart => exact ⟨0, by omega, rfl, rfl, rfl⟩
  case round =>
    obtain ⟨k, hk, rfl, rfl, rfl⟩ := hrel
    by_cases hlt : k < 4
    · have hd : decide ((k : Int) < 4) = true := decide_eq_true (by omega)
      obtain ⟨c, hc⟩ : ∃ c : UInt8, c = b[k]'(by have := HN.out; omega) := ⟨_, rfl⟩
      have hkb : k < b.length := by have := HN.out; omega
      have hcell : wr.cell? (aa.add k) = some (.int .u8 (c.toNat : Int)) := by
        rcases H1.out with ⟨e, _⟩ | ⟨a', c', e, _, _, _, hb⟩
        · cases e
        · injection e with e1 _ _
          injection e1 with e1
          rw [e1]
          exact hb k _ (by rw [hc]; exact (by simp : (bv b)[k]? = (bv b).toArray[k]?).trans (bv_at (l := b) hkb))
      clear hkb
      have HC := Lib.hid hc
      have hp := partF_lt b k
      have HP : Hid (partF b (k + 1) = partF b k * 256 + c.toNat) := Lib.hid (by rw [hc]; exact partF_succ (by have := HN.out; omega))
      have hp24 : partF b k < 16777216 := Nat.lt_of_lt_of_le hp (by
        have : (256 : Nat) ^ k ≤ 256 ^ 3 := Nat.pow_le_pow_right (by omega) (by omega)
        omega)
      have HP24 := Lib.hid hp24
      clear hc hp hp24
      generalize partF b k = pt at *
      go_wp2_with fail
      go_roundw
      case rel =>
        refine ⟨k + 1, by omega, by go_num, ?_, trivial⟩
        have e1 : ((pt : Int) * 256 % 4294967296) = ((pt * 256 : Nat) : Int) := by have := HP24.out; omega
        have e2 : ((c.toNat : Int) % 4294967296) = ((c.toNat : Nat) : Int) := by have := c.toNat_lt; omega
        have e3 : pt * 256 ||| c.toNat = pt * 256 + c.toNat := by
          have h := Nat.two_pow_add_eq_or_of_lt (i := 8) (b := c.toNat) c.toNat_lt pt
          rw [show (2 : Nat) ^ 8 = 256 from rfl, Nat.mul_comm] at h
          exact h.symm
        rw [e1, e2, bits_or_u32_nat _ _ (by have := HP24.out; unfold two32; omega) (by have := c.toNat_lt; unfold two32; omega), e3, HP.out]
      case measure => simp [intOf]; omega
    · have hd : decide ((k : Int) < 4) = false := decide_eq_false (by omega)
      obtain rfl : k = 4 := by omega
      have hp := partF_lt b 4
      have HM : Hid (num4 b = partF b 4) := Lib.hid rfl
      obtain ⟨m, hm⟩ : ∃ m, m = partF b 4 := ⟨_, rfl⟩
      rw [← hm] at hp HM ⊢
      clear hm
      have hwm : IntKind.i64.wrap (m : Int) = (m : Int) := IntWalk.i64_in _ (by omega)
      clear hp
      by_cases h1 : 524288 < m
      · have hd1 : decide ((m : Int) > 524288) = true := decide_eq_true (by omega)
        have HF : Hid (firstN b = none) := Lib.hid (by have := HN.out; unfold firstN; rw [if_neg (by omega), if_pos (Or.inl (by rw [HM.out]; exact h1))])
        have c1 := HI2.out.write (l := zeros) rfl
        have HI3 := Lib.hid (HI2.out.put (l := zeros) rfl)
        have HB3 := Lib.hid (below_setRow HB1.out (Nat.le_refl _) (bv zeros).toArray)
        have zl := zeros_len
        clear h1 HM
        go_wp2_with fail
        exact bodyPost_ret (v := .tuple #[.agg (bv zeros).toArray, .int .i64 ((0 : Nat) : Int), .bool false]) (results_id3 rfl _ _ rfl rfl rfl HI3.out) rfl ⟨zeros, 0, rfl, by rw [HF.out]; rfl, fun n hn => (by rw [HF.out] at hn; cases hn), HB3.out⟩
      · have hd1 : decide ((m : Int) > 524288) = false := decide_eq_false (by omega)
        by_cases h2 : n - 12 < m
        · have hd2 : decide (m > n - 12) = true := decide_eq_true h2
          have HF : Hid (firstN b = none) := Lib.hid (by have := HN.out; unfold firstN; rw [if_neg (by omega), if_pos (Or.inr (by rw [HM.out]; omega))])
          have c1 := HI2.out.write (l := zeros) rfl
          have HI3 := Lib.hid (HI2.out.put (l := zeros) rfl)
          have HB3 := Lib.hid (below_setRow HB1.out (Nat.le_refl _) (bv zeros).toArray)
          have zl := zeros_len
          clear h1 h2 HM
          go_wp2_with fail
          exact bodyPost_ret (v := .tuple #[.agg (bv zeros).toArray, .int .i64 ((0 : Nat) : Int), .bool false]) (results_id3 rfl _ _ rfl rfl rfl HI3.out) rfl ⟨zeros, 0, rfl, by rw [HF.out]; rfl, fun n hn => (by rw [HF.out] at hn; cases hn), HB3.out⟩
        · have hd2 : decide (m > n - 12) = false := decide_eq_false h2
          obtain ⟨M, hM⟩ : ∃ M, M = (524288 : Nat) := ⟨_, rfl⟩
          have HMM := Lib.hid hM
          rw [← hM] at h1
          have hmc : m ≤ c8 := by omega
          have HLE : Hid (m ≤ n - 12 ∧ m ≤ M) := Lib.hid ⟨by omega, by omega⟩
          clear h1 h2 hM
          go_upto_region 12 with fail
          clear hd1 hd2
          go_wp2_with fail
          obtain ⟨rc, hrc⟩ : ∃ rc, rc = (b.drop 12).take m := ⟨_, rfl⟩
          have HRC := Lib.hid hrc
          have hrl : rc.length = m := by have := HN.out; have := HLE.out; rw [hrc, List.length_take, List.length_drop]; omega
          have hbr : BytesC S wr (.slice (some a8) m c8) rc := by
            have h := cut_c (l := b.drop 12) (a := a8) (cap := c8) (S := S) (w := wr) (by
              have e : (b.drop 12).length = n - 12 := by rw [List.length_drop, HN.out]
              rw [e]; exact B8.out) m (by have := HN.out; have := HLE.out; rw [List.length_drop]; omega)
            rw [hrc]; exact h
          have hal := Below.heap_alloc wr (.cells #[.slice (some a8) m c8] 22)
          have hb2 : Below w.heap.size w (wr.alloc (.cells #[.slice (some a8) m c8] 22)) := HB1.out.alloc HB1.out.size _
          have HCH : Hid (ChunksC (fun k => S k ∨ k = w.heap.size + 1) (wr.alloc (.cells #[.slice (some a8) m c8] 22)) (.slice (some ⟨w.heap.size + 1, 0, none⟩) 1 1) [rc]) := Lib.hid (by
            refine Or.inr ⟨_, 1, rfl, Nat.le_refl _, by unfold maxLen; omega, Or.inr (Or.inr rfl), fun j l hj => ?_⟩
            cases j with
            | succ j => simp at hj
            | zero =>
              simp at hj
              subst hj
              refine ⟨.slice (some a8) m c8, ?_, hbr.kept (fun k hk => ⟨Or.inl hk, hal k (by have := HS.out k hk; omega)⟩)⟩
              have := new_five wr #[.slice (some a8) m c8] 22
              rw [hsz1] at this
              exact cell_of_row _ _ _ _ _ _ this)
          have hsz2 : (wr.alloc (.cells #[.slice (some a8) m c8] 22)).heap.size = w.heap.size + 2 := by simp [hsz1]
          have B2 := Lib.hid hb2
          have I2 := Lib.hid (HI2.out.kept (hal w.heap.size (by omega)))
          have H2 := Lib.hid (H1.out.kept (S' := S) (w' := wr.alloc (.cells #[.slice (some a8) m c8] 22)) (fun k hk => ⟨hk, hal k (by have := HS.out k hk; omega)⟩))
          clear hal hb2 hbr hrc
          generalize wr.alloc (.cells #[.slice (some a8) m c8] 22) = w2 at *
          obtain ⟨O, hO⟩ : ∃ O, O = sumN rc := ⟨_, rfl⟩
          have HSM := Lib.hid (sum_any (fun k => S k ∨ k = w.heap.size + 1) _ [rc] w2 (fun k hk => hk.elim (fun hk => by have := HS.out k hk; omega) (fun hk => by omega)) HCH.out (by simp; have := HLE.out; have := HMM.out; omega) (by simp) (HE.out.on B2.out))
          have hO32 : O.length = 32 := by rw [hO]; exact sumN_len _
          have ef : [rc].flatten = rc := by simp
          rw [ef, ← hO] at HSM
          have HO := Lib.hid hO
          have HO32 := Lib.hid hO32
          clear hO hO32 ef hrl
          refine HSM.out.mono ?_
          rintro e w3 ⟨rfl, hb3⟩
          have hsz3 := hb3.size
          have I3 := Lib.hid (I2.out.kept (hb3.block _ (by omega)))
          have B3 := Lib.hid (B2.out.trans (hb3.mono (by omega)))
          have H3 := Lib.hid (H2.out.kept (S' := S) (w' := w3) (fun k hk => ⟨hk, hb3.block k (by have := HS.out k hk; omega)⟩))
          clear hb3 HSM HCH
          have hn9 := IDAt.new w3
          have c9 := hn9.write (l := O) HO32.out
          have zo : (bv O).length = n32 := by rw [bv_len, HO32.out]; rfl
          go_upto_region 13 with fail
          obtain ⟨w5, hw5⟩ : ∃ w5, w5 = (w3.alloc (.cells (bv zeros).toArray 44)).setRow w3.heap.size (bv O).toArray := ⟨_, rfl⟩
          have hz5 : w5.heap.size = w3.heap.size + 1 := by rw [hw5]; simp [World.setRow]
          obtain ⟨b9, hb9⟩ : ∃ b9, b9 = w3.heap.size := ⟨_, rfl⟩
          obtain ⟨b2, hb2⟩ : ∃ b2, b2 = w.heap.size := ⟨_, rfl⟩
          have hbb : b2 < b9 := by omega
          have J9 : Hid (IDAt w5 b9 O) := Lib.hid (by rw [hw5, hb9]; exact hn9.put HO32.out)
          have J2 : Hid (IDAt w5 b2 zeros) := Lib.hid (by
            rw [hw5, hb2]
            exact (I3.out.kept (Below.heap_alloc w3 (.cells (bv zeros).toArray 44) w.heap.size (by omega))).kept (setRow_other _ w3.heap.size w.heap.size (bv O).toArray (by omega)))
          have J3 : Hid (BytesC S w5 (.slice (some aa) n ca) b) := Lib.hid (H3.out.kept (fun k hk => ⟨hk, by
            have := HS.out k hk
            rw [hw5, setRow_other _ w3.heap.size k (bv O).toArray (by omega)]
            exact Below.heap_alloc w3 _ k (by omega)⟩))
          have JB : Hid (Below w.heap.size w w5) := Lib.hid (by rw [hw5]; exact below_setRow (B3.out.alloc (by omega) _) (by omega) (bv O).toArray)
          rw [← hw5, ← hb9]
          rw [show (Value.pointer (some { block := w.heap.size, off := 0 }) : Value) = .pointer (some ⟨b2, 0, none⟩) by rw [hb2]]
          have HB2 : Hid (w.heap.size ≤ b2) := Lib.hid (by omega)
          clear hn9 c9 I2 H2 I3 H3 B2 B3 hw5 hb2 hb9
          have hf : (b.drop 4).take 8 = (b.drop 4).take 8 := rfl
          have h49 := slice_4_12 aa n ca (by have := HN.out; omega) hca
          have P4 : Hid (BytesC (fun k => S k ∨ k = b9) w5 (.slice (some (aa.add 4)) 8 (ca - 4)) ((b.drop 4).take 8)) := Lib.hid (by
            have h := J3.out
            rw [← HN.out] at h
            have hnn := HN.out
            have h2 := h.drop 4 (by omega) (by omega)
            have e4 : b.length - 4 = (b.drop 4).length := by rw [List.length_drop]
            rw [e4] at h2
            replace h2 := cut_c h2 8 (by rw [List.length_drop]; omega)
            exact h2.kept (fun k hk => ⟨Or.inl hk, rfl⟩))
          have P9 : Hid (BytesC (fun k => S k ∨ k = b9) w5 (.slice (some ⟨b9, 0, none⟩) 32 32) O) := Lib.hid (by
            refine Or.inr ⟨_, 32, by rw [HO32.out], by rw [HO32.out]; omega, by unfold maxLen; omega, Or.inr (Or.inr rfl), fun j u hj => ?_⟩
            rw [Addr.add_mid, Nat.zero_add, cell_of_row w5 b9 _ _ _ _ J9.out.blk]
            simpa using hj)
          have hl8 : ((b.drop 4).take 8).length = 8 := by have := HN.out; rw [List.length_take, List.length_drop]; omega
          have HPX : Hid (Calls Tryd.prog 57 #[.slice (some ⟨b9, 0, none⟩) 32 32, .slice (some (aa.add 4)) 8 (ca - 4)] w5.drew fun e w' => e = .returned (.bool (decide (O.take 8 = (b.drop 4).take 8))) ∧ w' = w5.drew) := Lib.hid (by
            have := prefix_any _ _ _ O ((b.drop 4).take 8) w5.drew (P9.out.drewN 1) (P4.out.drewN 1) (by rw [hl8, HO32.out]; omega) (by rw [HO32.out]; omega)
            rw [hl8] at this
            exact this)
          have hcv : ∀ W, (IDAt W b9 O) → True := fun _ _ => trivial
          clear hcv hf hl8
          have c9 : (loadCellsFrom ⟨b9, 0, none⟩ 0 n32 #[]).run Tryd.prog w5.drew = .ok (bv O).toArray w5.drew := (J9.out.kept (w' := w5.drew) rfl).cells
          have c2 : (storeCells ⟨b2, 0, none⟩ (bv O)).run Tryd.prog w5.drew = .ok () (w5.drew.setRow b2 (bv O).toArray) := (J2.out.kept (w' := w5.drew) rfl).write HO32.out
          have HFN : Hid ((firstN b).isSome = decide (O.take 8 = (b.drop 4).take 8) ∧ ∀ n, firstN b = some n → m = n ∧ O = sumN ((b.drop 12).take n)) := Lib.hid (by
            have hnn := HN.out
            have hle := HLE.out
            have hmm := HMM.out
            have hO := HO.out
            rw [HRC.out] at hO
            have hn4 := HM.out
            unfold firstN
            rw [if_neg (by omega), hn4, if_neg (by omega), ← hO]
            by_cases ht : O.take 8 = (b.drop 4).take 8
            · rw [if_pos ht]; exact ⟨by rw [decide_eq_true ht]; rfl, fun n hn => by injection hn with hn; subst hn; exact ⟨rfl, hO⟩⟩
            · rw [if_neg ht]; exact ⟨by rw [decide_eq_false ht]; rfl, fun n hn => by cases hn⟩)
          go_region_with (go_at_call 57; refine HPX.out.mono ?_; rintro e w' ⟨rfl, rfl⟩)
          all_goals
            go_wp2_with fail
            exact bodyPost_ret (v := .tuple #[.agg (bv O).toArray, .int .i64 (m : Int), .bool (decide (O.take 8 = (b.drop 4).take 8))]) (results_id3 rfl _ _ rfl rfl rfl ((J2.out.kept (w' := w5.drew) rfl).put HO32.out)) rfl ⟨O, m, HO32.out, by rw [HFN.out.1], HFN.out.2, below_setRow (JB.out.trans (show Below w.heap.size w5 w5.drew from ⟨rfl, rfl, rfl, Nat.le_refl _, fun _ _ => rfl⟩)) HB2.out (bv O).toArray⟩
theorem first_any (S : Nat → Prop) (v : Value) (b : List UInt8) (w : World) (hS : ∀ k, S k → k < w.heap.size) (h : BytesC S w v b) (hE : Env w) : Calls Tryd.prog 47 #[v] w (FirstP w b) := by
  by_cases hl : b.length < 12
  · exact first_short v b w S h hl
  · rcases h with ⟨_, e⟩ | ⟨a, c, rfl, h2⟩
    · rw [e] at hl; exact absurd (by simp) hl
    · exact first_long a c b w S hS (Or.inr ⟨a, c, rfl, h2⟩) (by omega) hE
end Go.Proofs.YtgknihcpmpfocaaDoor
