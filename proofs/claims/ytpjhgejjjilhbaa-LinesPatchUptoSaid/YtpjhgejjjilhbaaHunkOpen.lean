/- Arguments opened: a slice of hunks. -/
import Derived.Test.YtpjhgejjjilhbaaStrOpen
import Derived.Test.YtpjhgejjjilhbaaLinT
namespace Go.Proofs.Ytpjhgejjjilhbaa
open Go.RowKit Go.ChangeShapes Go.WideShapes Go.Deep Go.Joins

/-- Values and letters that hunks hold, at most. -/
def sumH : List (HunkN (List UInt8)) → Nat
  | [] => 0
  | h :: r => sumL h.old + sumL h.new + 1 + sumH r
theorem sumH_len : ∀ hs : List (HunkN (List UInt8)), hs.length ≤ sumH hs
  | [] => Nat.zero_le _
  | h :: r => by have := sumH_len r; simp only [sumH, List.length_cons]; omega
theorem sumH_news : ∀ hs : List (HunkN (List UInt8)), newsN hs ≤ sumH hs
  | [] => Nat.zero_le _
  | h :: r => by have := sumH_news r; have := sumL_len h.new; simp only [sumH, newsN]; omega
theorem sumH_mem : ∀ (hs : List (HunkN (List UInt8))), ∀ h ∈ hs, h.old.length ≤ sumH hs ∧ h.new.length ≤ sumH hs
  | [], _, hh => by cases hh
  | x :: r, h, hh => by
    have h1 := sumL_len x.old
    have h2 := sumL_len x.new
    rcases List.mem_cons.1 hh with rfl | hh
    · simp only [sumH]; omega
    · have := sumH_mem r h hh; simp only [sumH]; omega
section
variable {H : Type} {enc : TypeId × Value → H} {W : World}
theorem hunk_one : oneCellFields Try.prog #[{ name := "At", type := 3, offset := 0, embedded := false, tag := "", pkgPath := "", byteOffset := 0 }, { name := "Old", type := 24, offset := 1, embedded := false, tag := "", pkgPath := "", byteOffset := 8 },
        { name := "New", type := 24, offset := 2, embedded := false, tag := "", pkgPath := "", byteOffset := 32 }] = true := by kernel_rfl
set_option maxRecDepth 100000 in
theorem open_hunk {fuel : Nat} {cs : List Value} {x : DataW H × List MemPlace} (h : DataW.trod enc Try.prog W 0 (fun _ => true) true fuel 58 cs = some x) (hlt : ∀ p ∈ x.2, p.block < W.heap.size) :
    ∃ k : HunkN (List UInt8), hunkRel (fun k => k < W.heap.size) W k cs ∧ cs.length = 3 ∧ (∀ u ∈ cs, u.oneCell' = true) ∧ sumL k.old + sumL k.new + 1 ≤ Rows.uptoBulk x.1 := by
  obtain ⟨xs, n, _, hx, hcl, hlen, hf⟩ := DataW.trod_struct Try.underlying58 h
  have hC : Try.prog.cellsOf 58 = 3 := by kernel_rfl
  have hone := hunk_one
  rw [hC] at hcl
  match cs, hcl with
  | [c0, c1, c2], _ =>
    obtain ⟨o0, k0⟩ := hone_of hone 0 _ rfl
    obtain ⟨o1, k1⟩ := hone_of hone 1 _ rfl
    obtain ⟨o2, k2⟩ := hone_of hone 2 _ rfl
    have h0 : DataW.trod enc Try.prog W 0 (fun _ => true) true n 3 [c0] = xs[0]? := by have h := hf 0 _ rfl; rw [o0, k0] at h; exact h
    have h1 : DataW.trod enc Try.prog W 0 (fun _ => true) true n 24 [c1] = xs[1]? := by have h := hf 1 _ rfl; rw [o1, k1] at h; exact h
    have h2 : DataW.trod enc Try.prog W 0 (fun _ => true) true n 24 [c2] = xs[2]? := by have h := hf 2 _ rfl; rw [o2, k2] at h; exact h
    clear o0 k0 o1 k1 o2 k2
    match xs, hlen with
    | [y0, y1, y2], _ =>
      simp only [List.getElem?_cons_zero, List.getElem?_cons_succ] at h0 h1 h2
      obtain ⟨k, hk, _, _⟩ := DataW.trod_int Try.underlying3 h0
      injection hk with hk _
      subst hk hx
      obtain ⟨l1, s1, b1⟩ := open_strs h1 (fun p hp => hlt p (by simp [hp]))
      obtain ⟨l2, s2, b2⟩ := open_strs h2 (fun p hp => hlt p (by simp [hp]))
      obtain ⟨a1, n1, rfl⟩ := s1.shape
      obtain ⟨a2, n2, rfl⟩ := s2.shape
      refine ⟨⟨k, l1, l2⟩, ⟨_, _, rfl, s1, s2⟩, rfl, fun u hu => ?_, ?_⟩
      · simp at hu; rcases hu with rfl | rfl | rfl <;> rfl
      · simp only [List.map_cons, List.map_nil, Rows.uptoBulk, Rows.uptoBulkAll]
        show sumL l1 + sumL l2 + 1 ≤ _
        omega
theorem open_hunks {fuel : Nat} {v : Value} {x : DataW H × List MemPlace} (h : DataW.trod enc Try.prog W 0 (fun _ => true) true fuel 38 [v] = some x) (hlt : ∀ p ∈ x.2, p.block < W.heap.size) :
    ∃ l, HunksC (fun k => k < W.heap.size) W v l ∧ sumH l ≤ Rows.uptoBulk x.1 := by
  have hC : Try.prog.cellsOf 58 = 3 := by kernel_rfl
  rcases open_slice Try.underlying38 h with ⟨hcs, hx⟩ | ⟨a, len, cap, m, n, D, Pl, hcs, hb, hl, hm, hmm, hx, hi⟩
  · injection hcs with hcs _
    subst hcs hx
    exact ⟨[], ⟨[], rfl, fun _ h => (by cases h), CellsC.nil _ _ _ _ _, fun j e cs h _ => by simp at h⟩, Nat.zero_le _⟩
  · injection hcs with hcs _
    subst hcs
    rw [if_pos rfl] at hmm
    subst hmm
    have key : ∀ i, ∃ q : HunkN (List UInt8) × List Value, i < len → hunkRel (fun k => k < W.heap.size) W q.1 q.2 ∧ q.2.length = 3 ∧ (∀ u ∈ q.2, u.oneCell' = true) ∧ sumL q.1.old + sumL q.1.new + 1 ≤ Rows.uptoBulk (D i) ∧ ∀ j u, q.2[j]? = some u → W.cell? ((a.add (i * 3)).add j) = some u := fun i => by
      by_cases hil : i < len
      · obtain ⟨cs', hc, ht⟩ := hi i (by omega)
        obtain ⟨k, r1, r2, r3, r4⟩ := open_hunk ht (fun p hp => hlt p (by rw [hx]; exact List.mem_append_right _ (List.mem_flatMap.2 ⟨i, List.mem_range.2 (by omega), hp⟩)))
        obtain ⟨_, _, hat⟩ := World.cells?_some hc
        refine ⟨(k, cs'), fun _ => ⟨r1, r2, r3, r4, fun j u hu => ?_⟩⟩
        have hj : j < 3 := by rw [← r2]; exact (List.getElem?_eq_some_iff.1 hu).1
        have h1 := hat j (by rw [hC]; exact hj)
        rw [hC] at h1
        rw [h1]; exact hu
      · exact ⟨(⟨0, [], []⟩, []), fun h => absurd h hil⟩
    obtain ⟨F, hF⟩ := Classical.axiomOfChoice key
    have hhl : ((List.range len).map fun i => (F i).1).length = len := by simp
    have hcl : ((List.range len).map fun i => (F i).2).length = len := by simp
    have hhat : ∀ i, i < len → ((List.range len).map fun i => (F i).1)[i]? = some (F i).1 := fun i hi => by simp [hi]
    have hcat : ∀ i, i < len → ((List.range len).map fun i => (F i).2)[i]? = some (F i).2 := fun i hi => by simp [hi]
    have hce : ∀ cs ∈ (List.range len).map fun i => (F i).2, cs.length = 3 := fun cs hcs => by
      obtain ⟨i, hi, rfl⟩ := List.mem_map.1 hcs
      exact (hF i (List.mem_range.1 hi)).2.1
    refine ⟨(List.range len).map fun i => (F i).1, ⟨(List.range len).map fun i => (F i).2, by rw [hhl, hcl], hce, ?_, fun j e cs he hc => ?_⟩, ?_⟩
    · by_cases h0 : len = 0
      · subst h0; exact CellsC.nil _ _ _ _ _
      · have h00 := hF 0 (by omega)
        have hsp : a.spot = none := by
          obtain ⟨v1, v2, e, _⟩ := h00.1
          have := h00.2.2.2.2 0 (.int .i64 (F 0).1.place) (by rw [e]; rfl)
          rw [Nat.zero_mul, add_none, add_none] at this
          exact spot_none this
        obtain ⟨g, o, sp⟩ := a
        simp only at hsp
        subst hsp
        refine ⟨by rw [flatten_len _ hce, hcl, hhl], fun u hu => ?_, Or.inr ⟨g, o, m, by rw [hhl], ?_, by rw [hhl]; exact hl, hm, fun j u hj => ?_⟩⟩
        · obtain ⟨cs, hcs, hu⟩ := List.mem_flatten.1 hu
          obtain ⟨i, hi, rfl⟩ := List.mem_map.1 hcs
          exact (hF i (List.mem_range.1 hi)).2.2.1 u hu
        · refine hlt (.cell g (o + 0)) ?_
          rw [hx]
          exact List.mem_append_left _ (MemPlace.mem_row.2 ⟨0, by rw [hC]; omega, rfl⟩)
        · have hjl : j < len * 3 := by
            have := (List.getElem?_eq_some_iff.1 hj).1
            rwa [flatten_len _ hce, hcl] at this
          have hd : j / 3 < len := by omega
          have e := flatten_at _ (j / 3) _ hce (hcat _ hd) (j % 3) (by omega)
          rw [show j / 3 * 3 + j % 3 = j from by omega, hj] at e
          have := (hF _ hd).2.2.2.2 (j % 3) u e.symm
          rw [add_pos, add_pos, Nat.add_assoc, show j / 3 * 3 + j % 3 = j from by omega] at this
          exact this
    · have hj : j < len := by
        have := (List.getElem?_eq_some_iff.1 he).1
        rwa [hhl] at this
      rw [hhat j hj] at he
      rw [hcat j hj] at hc
      injection he with he
      injection hc with hc
      subst he hc
      exact (hF j hj).1
    · have hs : ∀ k, k ≤ len → sumH ((List.range' (len - k) k).map fun i => (F i).1) ≤ Rows.uptoBulkAll ((List.range' (len - k) k).map D) := fun k => by
        induction k with
        | zero => intro _; simp [sumH]
        | succ k ih =>
          intro hk
          have h1 := ih (by omega)
          have h2 := (hF (len - (k + 1)) (by omega)).2.2.2.1
          rw [List.range'_succ, List.map_cons, List.map_cons, show len - (k + 1) + 1 = len - k from by omega]
          simp only [sumH, Rows.uptoBulkAll]
          omega
      have h1 := hs len (Nat.le_refl _)
      rw [Nat.sub_self, ← List.range_eq_range'] at h1
      rw [hx]
      have h2 := (bulk_slice ((List.range len).map D) ((List.range (m - len)).map fun j => D (len + j))).2
      have h3 : Rows.uptoBulk (DataW.slice ((List.range len).map D) ((List.range (m - len)).map fun j => D (len + j))) = Rows.uptoBulk (DataW.slice ((List.range len).map D) ((List.range (m - len)).map fun j => D (len + j)), MemPlace.row a (m * Try.prog.cellsOf 58) ++ (List.range m).flatMap Pl).1 := rfl
      rw [← h3]
      omega
end
/-- Patch, whether hunks fit or not. -/
theorem patch_any (S T : Nat → Prop) (va vh : Value) (a : List (List UInt8)) (hs : List (HunkN (List UInt8))) (w : World) (hS : ∀ k, S k → k < w.heap.size) (hT : ∀ k, T k → k < w.heap.size) (ha : StrsC S w va a) (hh : HunksC T w vh hs) (hal : a.length ≤ 4194304) (hhl : hs.length ≤ 4194304) (hol : ∀ h ∈ hs, h.old.length ≤ 4194304) (hn : a.length + newsN hs ≤ 8388608) :
    Calls Try.prog 31 #[va, vh] w fun e w' => ∃ v, e = .returned (.tuple #[v, .int .i64 (codeQ (fitB a 0 hs))]) ∧ OwnS w' w.heap.size v (outQ (fitB a 0 hs) (outN a 0 hs)) ∧ Below w.heap.size w w' := by
  cases hq : fitB a 0 hs
  · exact (patch_no S T va vh a hs w hS hT ha hh hal hhl hol hq).mono fun _ _ ⟨h1, h2⟩ => ⟨_, h1, ownS_nil _ _, h2⟩
  · exact (patch_yes S T va vh a hs w hS hT ha hh hal hhl hol hn hq).mono fun _ _ ⟨v, h1, h2, h3⟩ => ⟨v, h1, h2, h3⟩
set_option maxRecDepth 100000 in
set_option maxHeartbeats 8000000 in
theorem lpatch_law (S T : Nat → Prop) (va vh : Value) (a : List (List UInt8)) (hs : List (HunkN (List UInt8))) (w : World) (hS : ∀ k, S k → k < w.heap.size) (hT : ∀ k, T k → k < w.heap.size) (ha : StrsC S w va a) (hh : HunksC T w vh hs) (hsa : sumL a ≤ 1048576) (hsh : sumH hs ≤ 1048576) :
    Calls Try.prog 5 #[va, vh] w (TrueP w) := by
  unfold TrueP
  obtain ⟨hal, _⟩ := sum_bounds hsa
  have hhl := sumH_len hs
  have hnn := sumH_news hs
  have HOL : Hid (∀ h ∈ hs, h.old.length ≤ 4194304) := Lib.hid (fun h hh => by have := (sumH_mem hs h hh).1; omega)
  have hhl2 : hs.length ≤ 1048576 := by omega
  have hlen : (outQ (fitB a 0 hs) (outN a 0 hs)).length ≤ 4194304 := by
    cases hq : fitB a 0 hs
    · exact Nat.zero_le _
    · show (outN a 0 hs).length ≤ _
      have key : ∀ (r : List (HunkN (List UInt8))) (d : Nat), Fits a d r → d ≤ a.length → (outN a d r).length + d ≤ a.length + newsN r := fun r => by
        induction r with
        | nil => intro d _ hd; simp only [outN, newsN, List.length_drop]; omega
        | cons x r ih =>
          intro d ⟨f1, f2, f3, f4, f5⟩ hd
          have h1 := ih _ f5 (by omega)
          simp only [outN, newsN, List.length_append, List.length_take, List.length_drop]
          omega
      have := key hs 0 ((fit_iff a hs 0).1 hq) (Nat.zero_le _)
      omega
  obtain ⟨aa, ac, rfl⟩ := ha.shape
  obtain ⟨ba, bc, rfl⟩ := hh.shape
  have HS := Lib.hid hS
  have HT := Lib.hid hT
  have HA := Lib.hid (fun (W : World) (hb : Below w.heap.size w W) => ha.kept (S' := S) (w' := W) (fun k hk => ⟨hk, hb.block k (hS k hk)⟩))
  have HH := Lib.hid (fun (W : World) (hb : Below w.heap.size w W) => hh.kept hunk_keeps (S' := T) (w' := W) (fun k hk => ⟨hk, hb.block k (hT k hk)⟩))
  have HP := Lib.hid (fun W h1 h2 => patch_any S T (.slice aa a.length ac) (.slice ba hs.length bc) a hs W (fun k hk => by have := HS.out k hk; exact Nat.lt_of_lt_of_le this h1) (fun k hk => by have := HT.out k hk; exact Nat.lt_of_lt_of_le this h1) (HA.out W h2) (HH.out W h2) (by omega) (by omega) HOL.out (by omega))
  have HR := Lib.hid (fun (T2 : Nat → Prop) v2 W h1 h2 h3 h4 => rpatch_any S T2 (.slice aa a.length ac) v2 a hs W (fun k hk => by have := HS.out k hk; exact Nat.lt_of_lt_of_le this h1) h3 (HA.out W h2) h4 (by omega) (by omega) HOL.out (by omega))
  generalize outQ (fitB a 0 hs) (outN a 0 hs) = O at *
  generalize codeQ (fitB a 0 hs) = cq at *
  clear hS hT ha hh hsa hsh
  go_enter Try.func5, Try.ntmps5
  go_wp2_with fail
  refine (awake7_any _).mono ?_
  rintro e w1 ⟨rfl, hb1⟩
  have B1 := Lib.hid hb1
  have hs1 := hb1.size
  clear hb1
  go_wp2_with fail
  refine (HP.out w1 hs1 B1.out).mono ?_
  rintro e w2 ⟨v2, rfl, ho2, hb2⟩
  have B2 := Lib.hid (B1.out.trans (hb2.mono hs1))
  have O2 := Lib.hid (ownS_c ho2)
  obtain ⟨a2, c2, rfl⟩ := ownS_slice ho2
  have hs2 := B2.out.size
  clear ho2 hb2 HP
  go_wp2_with fail
  refine (plain_any T _ hs w2 (fun k hk => by have := HT.out k hk; omega) (HH.out w2 B2.out) (by omega)).mono ?_
  rintro e w3 ⟨v3, rfl, hh3, hb3⟩
  have B3 := Lib.hid (B2.out.trans (hb3.mono hs2))
  have H3 := Lib.hid hh3
  have O3 := Lib.hid (O2.out.kept (S' := fun k => k < w2.heap.size) (w' := w3) (fun k hk => ⟨hk.2, hb3.block k hk.2⟩))
  obtain ⟨a3, c3, rfl⟩ := hh3.shape
  have hs3 := B3.out.size
  have hs23 := hb3.size
  clear hh3 hb3 O2
  go_wp2_with fail
  refine (HR.out _ _ w3 hs3 B3.out (fun _ hk => hk) H3.out).mono ?_
  rintro e w4 ⟨v4, rfl, ho4, hb4⟩
  have B4 := Lib.hid (B3.out.trans (hb4.mono hs3))
  have O4 := Lib.hid (O3.out.kept (S' := fun k => k < w2.heap.size) (w' := w4) (fun k hk => ⟨hk, hb4.block k (by omega)⟩))
  have P4 := Lib.hid (ownS_c ho4)
  obtain ⟨a4, c4, rfl⟩ := ownS_slice ho4
  clear ho4 hb4 O3 HR
  go_wp2_with fail
  refine (same_yes _ _ _ _ O O w4 O4.out P4.out (by omega) (by omega) rfl).mono ?_
  rintro e w5 ⟨rfl, n5, rfl⟩
  go_wp2_with fail
  go_ret
  exact ⟨rfl, B4.out.trans (drewn _ w4 n5)⟩
end Go.Proofs.Ytpjhgejjjilhbaa
