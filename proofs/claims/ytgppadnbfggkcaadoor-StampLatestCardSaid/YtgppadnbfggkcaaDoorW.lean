/- The walk of StampLatest. -/
import Derived.Test.YtgppadnbfggkcaaDoorH
import Derived.Test.YtgppadnbfggkcaaDoorR
import Derived.Laws.OwnMore
import Derived.Deep.AppendLies
namespace Go.Proofs.YtgppadnbfggkcaaDoor
open Go.RowKit

def latStep (last f : Nat) : Nat := if keyN last < keyN f then f else last
def latL (l : List Nat) : Nat := l.foldl latStep 18442240474082181120
theorem latL_snoc (l : List Nat) (f : Nat) : latL (l ++ [f]) = latStep (latL l) f := by unfold latL; rw [List.foldl_append]; rfl
theorem latL_lt : ∀ (l : List Nat), (∀ f ∈ l, f < 18446744073709551616) → latL l < 18446744073709551616 := by
  have h : ∀ (l : List Nat) (s : Nat), s < 18446744073709551616 → (∀ f ∈ l, f < 18446744073709551616) → l.foldl latStep s < 18446744073709551616 := by
    intro l
    induction l with
    | nil => intro s hs _; exact hs
    | cons f l ih =>
      intro s hs hl
      refine ih _ ?_ (fun x hx => hl x (by simp [hx]))
      unfold latStep; split
      · exact hl f (by simp)
      · exact hs
  exact fun l hl => h l _ (by omega) hl
/-- A slice value over cells that hold these words. -/
def FloatsAt (w : World) (a : Option Addr) (l : List Nat) : Prop := ∀ k, k < l.length → ∃ ad, a = some ad ∧ w.cell? (ad.add k) = some (.float .f64 (l.getD k 0))

theorem take_snoc (l : List Nat) (k : Nat) (h : k < l.length) : l.take (k + 1) = l.take k ++ [l.getD k 0] := by
  rw [List.take_succ_eq_append_getElem h]; simp [List.getD, h]
theorem inf_neg (w : World) : Calls Tryd.prog 34 #[.int .i64 (-1)] w fun e w' => e = .returned (.float .f64 18442240474082181120) ∧ w = w' := by
  have h27 := fb27
  go_enter Tryd.func34, Tryd.ntmps34
  go_wp2
  go_ret
  exact ⟨rfl, rfl⟩
theorem cmp_pos (x y : Nat) : (0 < cmpN (keyN x) (keyN y)) ↔ keyN y < keyN x := by
  unfold cmpN; split
  · constructor <;> intro <;> omega
  · split
    · constructor <;> intro <;> omega
    · constructor <;> intro <;> omega
set_option maxRecDepth 100000 in
set_option maxHeartbeats 1000000 in
theorem latest_any (a : Option Addr) (l : List Nat) (cap : Nat) (w : World) (hl : l.length ≤ 9223372036854775807) (hb : ∀ f ∈ l, f < 18446744073709551616) (hF : FloatsAt w a l) :
    Calls Tryd.prog 21 #[.slice a l.length cap] w fun e w' => e = .returned (.float .f64 (canonB (latL l))) ∧ w = w' := by
  have HF := Lib.hid hF
  have HB := Lib.hid hb
  clear hF hb
  go_enter Tryd.func21, Tryd.ntmps21
  go_wp2_with fail
  refine (inf_neg _).mono ?_
  rintro e w' ⟨rfl, rfl⟩
  go_wp2_with fail
  go_loop [3, 9] (fun v i => ∃ k : Nat, k ≤ l.length ∧ i = .int .i64 k ∧ v = .float .f64 (latL (l.take k))) (fun _ i => l.length - (intOf i).toNat)
  case atStart => exact ⟨0, Nat.zero_le _, rfl, rfl⟩
  case round =>
    obtain ⟨k, hk, rfl, rfl⟩ := hrel
    by_cases hlt : k < l.length
    · obtain ⟨ad, rfl, hc⟩ := HF.out k hlt
      have hfb : l.getD k 0 < 18446744073709551616 := HB.out _ (by simp [List.getD, hlt])
      have hlb : latL (l.take k) < 18446744073709551616 := latL_lt _ (fun f hf => HB.out f (List.mem_of_mem_take hf))
      have HS := Lib.hid (latL_snoc (l.take k) (l.getD k 0))
      have HT := Lib.hid (take_snoc l k hlt)
      have HC := Lib.hid (compare_any (l.getD k 0) (latL (l.take k)) hfb hlb w)
      generalize hx : latL (l.take k) = x at *
      generalize hy : l.getD k 0 = y at *
      have HX := Lib.hid hx
      clear hx hy hfb hlb
      go_wp2_with fail
      refine HC.out.mono ?_
      rintro e w' ⟨rfl, rfl⟩
      go_wp2
      · have hgt : 0 < cmpN (keyN y) (keyN x) := by assumption
        have hk2 := (cmp_pos y x).1 hgt
        go_round
        case rel => exact ⟨k + 1, by omega, by go_num, by rw [HT.out, HS.out]; unfold latStep; rw [if_pos hk2]⟩
        case measure => simp [intOf]; omega
      · have hgt : cmpN (keyN y) (keyN x) ≤ 0 := by assumption
        have hk2 : ¬ keyN x < keyN y := fun h => by have := (cmp_pos y x).2 h; omega
        go_round
        case rel => exact ⟨k + 1, by omega, by go_num, by rw [HT.out, HS.out]; unfold latStep; rw [if_neg hk2]⟩
        case measure => simp [intOf]; omega
    · have hk2 : l.take k = l := List.take_of_length_le (by omega)
      rw [hk2]
      clear hk2
      generalize hx : latL l = x at *
      have HX := Lib.hid hx
      clear hx
      go_wp2_with fail
      refine (canon_any x _).mono ?_
      rintro e w' ⟨rfl, rfl⟩
      go_wp2
      go_ret
      exact ⟨by rw [HX.out]; rfl, rfl⟩
theorem canon_canon (b : Nat) : canonB (canonB b) = canonB b := by
  have e1 : canonB 9221120237041090560 = 9221120237041090560 := by decide +kernel
  by_cases h : nanB b = true
  · have e : canonB b = 9221120237041090560 := by unfold canonB; rw [if_pos h]
    rw [e, e1]
  · have e := canonB_eq b (by simpa using h)
    rw [e, e]
theorem key_canon (b : Nat) : keyN (canonB b) = keyN b := by unfold keyN; rw [canon_canon]
theorem key_least (b : Nat) (hb : b < 18446744073709551616) : keyN 18442240474082181120 ≤ keyN b := by
  have e : keyN 18442240474082181120 = 4503599627370495 := by decide +kernel
  rw [e]
  have hn : nanB b = true ∨ b % 9223372036854775808 ≤ 9218868437227405312 := by
    rw [nanB_eq b hb]; simp; omega
  unfold keyN
  rcases hn with hn | hn
  · have : canonB b = 9221120237041090560 := by unfold canonB; rw [if_pos hn]
    have e2 : keyX 9221120237041090560 = 18444492273895866368 := by decide +kernel
    rw [this, e2]; omega
  · have hc : canonB b = b ∨ canonB b = 9221120237041090560 := by unfold canonB; split <;> simp
    rcases hc with hc | hc <;> rw [hc]
    · unfold keyX
      cases ht : topB b <;> unfold topB at ht <;> simp at ht
      · rw [if_neg (by simp)]; omega
      · rw [if_pos rfl]; omega
    · have e2 : keyX 9221120237041090560 = 18444492273895866368 := by decide +kernel
      rw [e2]; omega
theorem lat_facts : ∀ (l : List Nat) (s : Nat), keyN s ≤ keyN (l.foldl latStep s) ∧ (∀ x ∈ l, keyN x ≤ keyN (l.foldl latStep s)) ∧ (l.foldl latStep s = s ∨ l.foldl latStep s ∈ l)
  | [], s => ⟨Nat.le_refl _, by simp, Or.inl rfl⟩
  | f :: l, s => by
    obtain ⟨h1, h2, h3⟩ := lat_facts l (latStep s f)
    have hs : keyN s ≤ keyN (latStep s f) ∧ keyN f ≤ keyN (latStep s f) ∧ (latStep s f = s ∨ latStep s f = f) := by
      unfold latStep; split
      · exact ⟨by omega, Nat.le_refl _, Or.inr rfl⟩
      · exact ⟨Nat.le_refl _, by omega, Or.inl rfl⟩
    rw [List.foldl_cons]
    refine ⟨by omega, ?_, ?_⟩
    · intro x hx
      rcases List.mem_cons.1 hx with rfl | hx
      · omega
      · exact h2 x hx
    · rcases h3 with h3 | h3
      · rcases hs.2.2 with e | e
        · left; rw [h3, e]
        · right; rw [h3, e]; simp
      · right; simp [h3]
theorem lat_hit (l : List Nat) (hl : l ≠ []) (hb : ∀ f ∈ l, f < 18446744073709551616) : ∃ x ∈ l, keyN x = keyN (latL l) := by
  obtain ⟨_, h2, h3⟩ := lat_facts l 18442240474082181120
  rcases h3 with h3 | h3
  · cases l with
    | nil => exact absurd rfl hl
    | cons x l =>
      refine ⟨x, by simp, ?_⟩
      have a := h2 x (by simp)
      have b := key_least x (hb x (by simp))
      rw [h3] at a
      show keyN x = keyN (List.foldl latStep _ _)
      rw [h3]; omega
  · exact ⟨_, h3, rfl⟩
theorem lat_turned (l : List Nat) (hb : ∀ f ∈ l, f < 18446744073709551616) : canonB (latL l.reverse) = canonB (latL l) := by
  have hb2 : ∀ f ∈ l.reverse, f < 18446744073709551616 := fun f hf => hb f (by simpa using hf)
  by_cases hl : l = []
  · subst hl; rfl
  · obtain ⟨x, hx, ex⟩ := lat_hit l hl hb
    obtain ⟨y, hy, ey⟩ := lat_hit l.reverse (by simpa using hl) hb2
    have a := (lat_facts l 18442240474082181120).2.1 y (by simpa using hy)
    have b := (lat_facts l.reverse 18442240474082181120).2.1 x (by simpa using hx)
    have e : keyN (latL l.reverse) = keyN (latL l) := by unfold latL at *; omega
    exact keyX_inj (canonB_lt (latL_lt _ hb2)) (canonB_lt (latL_lt _ hb)) e
def hitB (l : List Nat) (B : Nat) (k : Nat) : Bool := (l.drop k).any fun x => cmpN (keyN x) (keyN B) == 0
theorem cmp_zero (x y : Nat) : (cmpN x y == 0) = true ↔ x = y := by
  rw [beq_iff_eq]; unfold cmpN; split
  · constructor <;> intro <;> omega
  · split
    · constructor <;> intro <;> omega
    · constructor <;> intro <;> omega
theorem hit_step (l : List Nat) (B j : Nat) (h : j < l.length) : hitB l B j = (hitB l B (j + 1) || (cmpN (keyN (l.getD j 0)) (keyN B) == 0)) := by
  unfold hitB
  rw [List.drop_eq_getElem_cons h, List.any_cons, Bool.or_comm]
  simp [List.getD, h]
theorem hit_all (l : List Nat) (hl : l ≠ []) (hb : ∀ f ∈ l, f < 18446744073709551616) : hitB l (canonB (latL l)) 0 = true := by
  obtain ⟨x, hx, ex⟩ := lat_hit l hl hb
  unfold hitB
  rw [List.drop_zero, List.any_eq_true]
  exact ⟨x, hx, by rw [cmp_zero, key_canon]; exact ex⟩
theorem drop_rev (l : List Nat) (j : Nat) (h : j < l.length) : (l.drop j).reverse = (l.drop (j + 1)).reverse ++ [l.getD j 0] := by
  rw [List.drop_eq_getElem_cons h, List.reverse_cons]; simp [List.getD, h]
theorem FloatsAt.below {w w' : World} {a : Option Addr} {l : List Nat} (h : FloatsAt w a l) (hb : Below w.heap.size w w') : FloatsAt w' a l := fun k hk => by
  obtain ⟨ad, e, hc⟩ := h k hk
  refine ⟨ad, e, ?_⟩
  rw [hb.cell (World.block_lt_of_cell? _ _ hc)]; exact hc
theorem floats_of_own {w : World} {base : Nat} {a : Option Addr} {cap : Nat} {l : List Nat} {n : Nat} (h : w.ownsRow base 22 1 (.slice a n cap) n (l.map (Value.float .f64))) : FloatsAt w a l := fun k hk => by
  have hn : l.length = n := by have := h.1; simpa using this
  obtain ⟨g, c, hv, _, hlt⟩ := h.form (by omega)
  have ha : a = some ⟨g, 0, none⟩ := by injection hv
  subst ha
  refine ⟨_, rfl, ?_⟩
  have := h.cells (g := g) rfl k (.float .f64 (l.getD k 0)) (by simp [List.getD, hk])
  exact this
theorem slice_of_own {w : World} {base n : Nat} {v : Value} {xs : List Value} (h : w.ownsRow base 22 1 v n xs) : ∃ a cap, v = .slice a n cap := by
  rcases h.2 with ⟨e, hn⟩ | ⟨g, cap, cur, e, _⟩
  · subst hn; exact ⟨none, 0, e⟩
  · exact ⟨_, _, e⟩
theorem Tryd.info22 : (Tryd.prog.info? 22).map (fun i => (i.zero, i.size, i.bytes)) = some (some (.float .f64 0), 1, 8) := by kernel_rfl

set_option maxRecDepth 100000 in
set_option maxHeartbeats 1000000 in
theorem latest_none (a : Option Addr) (cap : Nat) (w : World) (hE : Env w) :
    Calls Tryd.prog 7 #[.slice a 0 cap] w fun e w' => e = .returned (.bool true) ∧ Below w.heap.size w w' := by
  have HL := Lib.hid (fun (a : Option Addr) (cap : Nat) (w : World) => latest_any a [] cap w (by simp) (by simp) (fun k hk => by simp at hk))
  have e : canonB (latL []) = 18442240474082181120 := by decide +kernel
  rw [e] at HL
  have HI := Lib.hid (isinf_neg 18442240474082181120 (by omega))
  have e2 : infB (negB 18442240474082181120) = true := by decide +kernel
  rw [e2] at HI
  have HE := Lib.hid hE
  have h14 := fb14
  clear e e2 hE
  go_enter Tryd.func7, Tryd.ntmps7
  go_wp2_with fail
  refine (awake_any _ HE.out).mono ?_
  rintro e w1 ⟨rfl, hb1⟩
  go_wp2_with fail
  refine (HL.out _ _ _).mono ?_
  rintro e w' ⟨rfl, rfl⟩
  go_wp2_with fail
  refine (HI.out _).mono ?_
  rintro e w' ⟨rfl, rfl⟩
  go_wp2_with fail
  refine wp_loop_rounds 1 ?_
  rw [rounds_succ]
  go_wp2_with fail
  refine (HL.out _ _ _).mono ?_
  rintro e w' ⟨rfl, rfl⟩
  go_wp2
  go_ret
  exact ⟨rfl, hb1⟩
theorem own_block {w : World} {base n : Nat} {v : Value} {xs : List Value} (h : w.ownsRow base 22 1 v n xs) (k : Nat) (hk : v.ownBlock = some k) : base ≤ k := by
  rcases h.2 with ⟨e, _⟩ | ⟨g, cap, cur, e, hg, _⟩
  · subst e; simp [Value.ownBlock] at hk
  · subst e; simp [Value.ownBlock] at hk; omega
theorem grow_step {w wr w2 : World} {v : Value} {n : Nat} {xs : List Value} {o : Obj} (hb : Below w.heap.size w wr) (h : wr.ownsRow w.heap.size 22 1 v n xs) (hg : (wr.alloc o).grownBy w2 v.ownBlock) : Below w.heap.size w w2 :=
  (hb.alloc hb.size o).grown hg (by have := hb.size; simp; omega) (fun k hk => own_block h k hk)
theorem own_step {w2 : World} {B n j : Nat} {v : Value} {l : List Nat} {y : Nat} (hd : (l.drop j).reverse = (l.drop (j + 1)).reverse ++ [y]) (hn : n = l.length - j)
    (h : w2.ownsRow B 22 1 v n (((l.map (Value.float .f64)).drop (j + 1)).reverse ++ [.float .f64 y])) : w2.ownsRow B 22 1 v (l.length - j) ((l.drop j).reverse.map (Value.float .f64)) := by
  rw [hd, List.map_append, ← hn, List.map_reverse, List.map_drop]; exact h
set_option maxRecDepth 100000 in
set_option maxHeartbeats 4000000 in
theorem latest_some (a : Option Addr) (l : List Nat) (cap : Nat) (w : World) (hn : l ≠ []) (hl : l.length * 8 ≤ 140737488351232) (hb : ∀ f ∈ l, f < 18446744073709551616) (hF : FloatsAt w a l) (hE : Env w) :
    Calls Tryd.prog 7 #[.slice a l.length cap] w fun e w' => e = .returned (.bool true) ∧ Below w.heap.size w w' := by
  obtain ⟨i0, hi, hz0, hz1, hz2⟩ := info_parts Tryd.info22
  have hlen : 0 < l.length := by cases l with | nil => exact absurd rfl hn | cons x l => simp
  have HL := Lib.hid (fun (w : World) (h : FloatsAt w a l) => latest_any a l cap w (by omega) hb h)
  have HLR := Lib.hid (fun (a : Option Addr) (cap : Nat) (w : World) (h : FloatsAt w a l.reverse) => latest_any a l.reverse cap w (by simp; omega) (fun f hf => hb f (by simpa using hf)) h)
  have et := lat_turned l hb
  rw [et] at HLR
  simp only [List.length_reverse] at HLR
  have hB : canonB (latL l) < 18446744073709551616 := canonB_lt (latL_lt l hb)
  have HA := Lib.hid (hit_all l hn hb)
  have HM := Lib.hid (fun x (hx : x ∈ l) => (lat_facts l 18442240474082181120).2.1 x hx)
  have HK := Lib.hid (key_canon (latL l))
  have HB := Lib.hid hb
  have HF := Lib.hid hF
  have HE := Lib.hid hE
  have HBB := Lib.hid hB
  have h14 := fb14
  have hlen0 : ((l.length : Int) == 0) = false := by rw [beq_eq_false_iff_ne]; omega
  clear et hB hb hF hE hn
  generalize hx : canonB (latL l) = B at *
  have HX := Lib.hid hx
  clear hx
  go_enter Tryd.func7, Tryd.ntmps7
  go_wp2_with fail
  refine (awake_any _ HE.out).mono ?_
  rintro e w1 ⟨rfl, hb1⟩
  have HF1 := Lib.hid (HF.out.below hb1)
  go_wp2_with fail
  refine (HL.out _ HF1.out).mono ?_
  rintro e w' ⟨rfl, rfl⟩
  go_wp2_with fail
  go_loopw [4, 5, 6] (fun fd v i wr => ∃ k : Nat, k ≤ l.length ∧ i = .int .i64 ((k : Int) - 1) ∧ fd = .bool (hitB l B k) ∧ wr.ownsRow w.heap.size 22 1 v (l.length - k) ((l.drop k).reverse.map (Value.float .f64)) ∧ Below w.heap.size w wr)
    (fun _ _ i _ => (intOf i + 1).toNat)
  case atStart =>
    refine ⟨l.length, Nat.le_refl _, rfl, ?_, ?_, hb1⟩
    · unfold hitB; simp
    · rw [List.drop_length, Nat.sub_self]; exact World.ownsRow_nil _ _ _ _
  case round =>
    obtain ⟨k, hk, rfl, rfl, hown, hbr⟩ := hrel
    have HR := Lib.hid hbr
    cases k with
    | zero =>
      rw [HA.out]
      rw [List.drop_zero, Nat.sub_zero] at hown
      obtain ⟨a2, cap2, rfl⟩ := slice_of_own hown
      have HFR := Lib.hid (floats_of_own hown)
      clear hown hbr
      go_wp2_with fail
      refine (HLR.out _ _ _ HFR.out).mono ?_
      rintro e w' ⟨rfl, rfl⟩
      go_wp2
      go_ret
      exact ⟨rfl, HR.out⟩
    | succ j =>
      have e : (((j + 1 : Nat) : Int) - 1) = (j : Int) := by omega
      rw [e]
      clear e
      have hj : j < l.length := by omega
      obtain ⟨ad, rfl, hc0⟩ := HF.out j hj
      have HCC := Lib.hid (fun (W : World) (h : Below w.heap.size w W) => (h.cell (World.block_lt_of_cell? _ _ hc0)).trans hc0)
      have hc := HCC.out _ hbr
      clear hc0
      have HS := Lib.hid (hit_step l B j hj)
      have HD := Lib.hid (drop_rev l j hj)
      have hfb : l.getD j 0 < 18446744073709551616 := HB.out _ (by simp [List.getD, hj])
      have HC := Lib.hid (compare_any (l.getD j 0) B hfb HBB.out)
      have hle : ¬ 0 < cmpN (keyN (l.getD j 0)) (keyN B) := by
        rw [cmp_pos, HK.out]
        have := HM.out (l.getD j 0) (by simp [List.getD, hj])
        exact Nat.not_lt.2 this
      clear hbr
      generalize l.getD j 0 = y at *
      generalize hfd : hitB l B (j + 1) = fd at *
      clear hfd
      clear hfb
      cases fd with
      | true =>
        go_wp2_with (at_builtin; refine wpList_append_own _ rfl _ _ 37 rfl w.heap.size 22 i0 (.float .f64 0) 1 8 Tryd.underlying37 hi hz0 hz1 hz2 rfl (by decide) _ _ _ rfl (hown.alloc _) ⟨wr.heap.size, 0, none⟩ 1 1 [.float .f64 y] rfl rfl ?c1 ?c2 ?c3 ?c4 ?c5 ?_)
        case c2 => rfl
        case c3 => unfold maxLen; omega
        case c4 => omega
        case c5 => have := HR.out.size; simp; omega
        intro v' w2 hown' hgrow _
        have HG := Lib.hid (grow_step HR.out hown hgrow)
        have HO := Lib.hid (own_step HD.out (by omega) hown')
        clear hown hown' hgrow
        have hc2 := HCC.out _ HG.out
        clear hc
        go_wp2_with fail
        refine (HC.out _).mono ?_
        rintro e w' ⟨rfl, rfl⟩
        go_wp2_with fail
        go_roundw
        case rel => exact ⟨j, by omega, rfl, by rw [HS.out]; rfl, HO.out, HG.out⟩
        case measure => simp [intOf]
      | false =>
        go_wp2_with (at_builtin; refine wpList_append_own _ rfl _ _ 37 rfl w.heap.size 22 i0 (.float .f64 0) 1 8 Tryd.underlying37 hi hz0 hz1 hz2 rfl (by decide) _ _ _ rfl (hown.alloc _) ⟨wr.heap.size, 0, none⟩ 1 1 [.float .f64 y] rfl rfl ?d1 ?d2 ?d3 ?d4 ?d5 ?_)
        case d2 => rfl
        case d3 => unfold maxLen; omega
        case d4 => omega
        case d5 => have := HR.out.size; simp; omega
        intro v' w2 hown' hgrow _
        have HG := Lib.hid (grow_step HR.out hown hgrow)
        have HO := Lib.hid (own_step HD.out (by omega) hown')
        clear hown hown' hgrow
        have hc2 := HCC.out _ HG.out
        clear hc
        go_wp2_with fail
        refine (HC.out _).mono ?_
        rintro e w' ⟨rfl, rfl⟩
        go_wp2_with fail
        refine (HC.out _).mono ?_
        rintro e w' ⟨rfl, rfl⟩
        go_wp2_with fail
        go_roundw
        case rel => exact ⟨j, by omega, rfl, by rw [HS.out]; rfl, HO.out, HG.out⟩
        case measure => simp [intOf]
theorem latest_law (a : Option Addr) (l : List Nat) (cap : Nat) (w : World) (hl : l.length * 8 ≤ 140737488351232) (hb : ∀ f ∈ l, f < 18446744073709551616) (hF : FloatsAt w a l) (hE : Env w) :
    Calls Tryd.prog 7 #[.slice a l.length cap] w fun e w' => e = .returned (.bool true) ∧ Below w.heap.size w w' := by
  by_cases hn : l = []
  · subst hn; exact latest_none a cap w hE
  · exact latest_some a l cap w hn hl hb hF hE
end Go.Proofs.YtgppadnbfggkcaaDoor
