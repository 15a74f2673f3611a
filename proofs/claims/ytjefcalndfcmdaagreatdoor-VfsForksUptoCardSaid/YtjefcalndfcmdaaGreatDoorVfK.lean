/- A new file system; changes of names made durable. -/
import Derived.Test.YtjefcalndfcmdaaGreatDoorVfJ
namespace Go.Proofs.YtjefcalndfcmdaaGreatDoor
open Go.RowKit Go.Maps
attribute [local go_sem ↓] Go.wp_at_zero Go.wp_at_succ
def newS (n : Nat) : Fs := ⟨[], [], [], [], n, 0, -1, 0⟩
theorem newS_ok {n : Nat} (h : n ≤ 4194304) : FsOk (newS n) := by
  refine ⟨rfl, fun k hk => ?_, fun a ha => (by cases ha), fun f hf => (by cases hf), Nat.le_refl _, h, by show (-9223372036854775808 : Int) ≤ -1; omega, by show (-1 : Int) ≤ 9223372036854775807; omega⟩
  have : k = 0 := Nat.le_zero.1 hk
  subst this
  exact dirOk_nil _
def NewP (B : Nat) (w : World) (n : Nat) (e : Ending) (w' : World) : Prop := ∃ X bf, e = .returned (.tuple #[.pointer (some ⟨bf, 0, none⟩), .int .i64 0]) ∧ FsAt B X w' bf (newS n) ∧ Below w.heap.size w w' ∧ ∀ k, X.T k ≠ .no → w.heap.size ≤ k
theorem new_bad (n : Int) (w : World) (h : n < 0 ∨ 4194304 < n) : Calls Tryz.prog 8 #[.int .i64 n] w fun e w' => e = .returned (.tuple #[.pointer none, .int .i64 1]) ∧ w = w' := by
  by_cases h1 : n < 0
  · have g1 : decide (n < 0) = true := decide_eq_true h1
    go_enter Tryz.func8, Tryz.ntmps8
    go_wp2_with fail
    go_ret2
    exact ⟨rfl, rfl⟩
  · have g1 : decide (n < 0) = false := decide_eq_false h1
    have g2 : decide (n > 4194304) = true := decide_eq_true (by omega)
    clear h
    go_enter Tryz.func8, Tryz.ntmps8
    go_wp2_with fail
    go_ret2
    exact ⟨rfl, rfl⟩
set_option maxHeartbeats 1000000 in
theorem new_any (B : Nat) (n : Nat) (w : World) (h : n ≤ 4194304) (hB : B ≤ w.heap.size) : Calls Tryz.prog 8 #[.int .i64 (n : Int)] w (NewP B w n) := by
  have hmm := @run_makeMap Tryz.prog
  have g1 : decide ((n : Int) < 0) = false := decide_eq_false (by omega)
  have g2 : decide ((n : Int) > 4194304) = false := decide_eq_false (by omega)
  have HB := Lib.hid hB
  clear h hB
  go_enter Tryz.func8, Tryz.ntmps8
  go_wp2_with fail
  go_ret2
  have hbb := HB.out
  refine ⟨{ T := fun k => if k = w.heap.size then .now else if k = w.heap.size + 1 then .sure else if k = w.heap.size + 2 then .fs else .no, bn := w.heap.size, bd := w.heap.size + 1, nn := 0, nd := 0, va := .slice none 0 0, Dn := .map [], Dd := .map [], fb := fun _ => 0, dv := fun _ => .slice none 0 0 }, w.heap.size + 2, rfl, ⟨fun k hk => ?_, ?_, ?_, ?_, fun k e => ?_, ?_, ?_, ?_, Nat.le_refl _, Nat.le_refl _, World.ownsRow_nil _ _ _ _, fun i hi => ?_⟩, (((Below.refl _ w).alloc (Nat.le_refl _) _).alloc (by simp) _).alloc (by simp; omega) _, fun k hk => ?_⟩
  · have hk2 : (if k = w.heap.size then Role.now else if k = w.heap.size + 1 then .sure else if k = w.heap.size + 2 then .fs else .no) ≠ .no := hk
    by_cases a : k = w.heap.size
    · simp; omega
    · by_cases b : k = w.heap.size + 1
      · simp; omega
      · by_cases c : k = w.heap.size + 2
        · simp; omega
        · rw [if_neg a, if_neg b, if_neg c] at hk2; exact absurd rfl hk2
  · simp
  · simp
  · simp
  · simp [Value.ownBlock] at e
  · have := new_five ((w.alloc (.map #[] 0)).alloc (.map #[] 0)) #[.int .i64 (n : Int), .int .i64 0, .map (some w.heap.size), .map (some (w.heap.size + 1)), .slice none 0 0, .int .i64 0, .int .i64 (-1)] 62
    have e : ((w.alloc (.map #[] 0)).alloc (.map #[] 0)).heap.size = w.heap.size + 2 := by simp
    rw [e] at this
    exact this
  · exact ((MapAt.made w (fun _ => 0)).kept (Below.heap_alloc _ _ _ (by simp))).kept (Below.heap_alloc _ _ _ (by simp; omega))
  · have h1 := MapAt.made (w.alloc (.map #[] 0)) (fun _ => 0)
    have h2 : (w.alloc (.map #[] 0)).heap.size = w.heap.size + 1 := by simp
    rw [h2] at h1
    exact h1.kept (Below.heap_alloc _ _ _ (by simp))
  · rcases hi with ⟨p, hp, _⟩ | ⟨a, ha, _⟩
    · cases hp
    · cases ha
  · have hk2 : (if k = w.heap.size then Role.now else if k = w.heap.size + 1 then .sure else if k = w.heap.size + 2 then .fs else .no) ≠ .no := hk
    by_cases a : k < w.heap.size
    · rw [if_neg (by omega), if_neg (by omega), if_neg (by omega)] at hk2; exact absurd rfl hk2
    · omega
def flushD (s : Fs) (n : Nat) : Fs := { s with sure := doAll s.sure (s.acts.take n), acts := [] }
def SettleP (B : Nat) (X : FsX) (w : World) (bf : Nat) (s' : Fs) (e : Ending) (w' : World) : Prop :=
  e = .returned (.tuple #[]) ∧ ∃ X', FsAt B X' w' bf s' ∧ Far (fun k => k = bf ∨ k = X.bd) w w' ∧ X'.T = X.T ∧ X'.bd = X.bd ∧ X'.bn = X.bn
theorem doAll_take {l : Dir} {ac : List Ac} {k : Nat} (h : k < ac.length) : doAll l (ac.take (k + 1)) = doA (doAll l (ac.take k)) (ac.getD k ⟨[], [], none⟩) := by
  rw [List.take_add_one, List.getElem?_eq_getElem h]
  show doAll l (ac.take k ++ [ac[k]]) = _
  rw [doAll_snoc]
  simp [List.getD, h]
/-- A change in its row. -/
theorem acsV_at {fb : Nat → Nat} : ∀ (l : List Ac) (k j : Nat), k < l.length → j < 3 → (acsV fb l)[k * 3 + j]? = (acV fb (l.getD k ⟨[], [], none⟩))[j]?
  | [], k, _, h, _ => by cases h
  | a :: l, k, j, h, hj => by
    have e : acsV fb (a :: l) = acV fb a ++ acsV fb l := by unfold acsV; simp
    rw [e]
    cases k with
    | zero =>
      rw [Nat.zero_mul, Nat.zero_add, List.getElem?_append_left (by rw [acV_len]; exact hj)]
      rfl
    | succ k =>
      rw [List.getElem?_append_right (by rw [acV_len]; omega), acV_len, show (k + 1) * 3 + j - 3 = k * 3 + j by omega, acsV_at l k j (by simpa using h) hj]
      rfl
theorem settle_fin {B : Nat} {X : FsX} {w wF : World} {bf n : Nat} {s : Fs} {D : DataW Unit} (h : FsAt B X w bf s) (hn : n ≤ s.acts.length) (hm : MapAt wF X.bd (X.nd + n) D X.fb (doAll s.sure (s.acts.take n)))
    (hF : Far (fun k => k = bf ∨ k = X.bd) w wF) (hb : wF.heap[bf]? = some (.cells #[.int .i64 (s.room : Int), .int .i64 (used s : Int), .map (some X.bn), .map (some X.bd), .slice none 0 0, .int .i64 (stV s), .int .i64 s.more] 62 (0, 0))) :
    ∃ X', FsAt B X' wF bf (flushD s n) ∧ X'.T = X.T ∧ X'.bd = X.bd ∧ X'.bn = X.bn := by
  have hlt : ∀ k, X.T k ≠ .no → k < w.heap.size := fun k ht => (h.dom k ht).2
  have hK : ∀ k r, X.T k = r → r ≠ .no → r ≠ .fs → r ≠ .sure → wF.heap[k]? = w.heap[k]? := fun k r e h1 h2 h3 => hF.block k (hlt k (by rw [e]; exact h1)) (by
    rintro (e2 | e2)
    · rw [e2, h.tf] at e; exact h2 e.symm
    · rw [e2, h.td] at e; exact h3 e.symm)
  refine ⟨{ X with va := .slice none 0 0, Dd := D, nd := X.nd + n }, ⟨fun k ht => ⟨(h.dom k ht).1, Nat.lt_of_lt_of_le (h.dom k ht).2 hF.size⟩, h.tf, h.tn, h.td, fun k e => by simp [Value.ownBlock] at e, hb, ?_, hm, h.hn, ?_, World.ownsRow_nil _ _ _ _, fun i hi => ?_⟩, rfl, rfl, rfl⟩
  · exact h.mn.kept (hK _ _ h.tn (fun c => by cases c) (fun c => by cases c) (fun c => by cases c))
  · have := h.hd; show X.nd + n + 0 ≤ s.steps; omega
  · have hl : Live s i := by
      rcases hi with ⟨p, hp, e⟩ | ⟨a, ha, _⟩
      · rcases doAll_mem hp with h1 | ⟨a, ha, e2⟩
        · exact Or.inl ⟨p, h1, e⟩
        · exact Or.inr ⟨a, List.mem_of_mem_take ha, by rw [e2, e]⟩
      · cases ha
    have hf := h.fil i hl
    have hk := hf.kept (w' := wF) (fun k e => by
      rcases e with e | e
      · exact hK _ _ e (fun c => by cases c) (fun c => by cases c) (fun c => by cases c)
      · exact hK _ _ e (fun c => by cases c) (fun c => by cases c) (fun c => by cases c)) hF.size
    exact ⟨hk.tb, hk.tv, hk.blk, hk.row⟩
set_option maxRecDepth 100000 in
set_option maxHeartbeats 4000000 in
theorem settle_any {B : Nat} {X : FsX} {w : World} {bf n : Nat} {s : Fs} (h : FsAt B X w bf s) (hr : ∀ k, k ≤ s.acts.length → Rise (doAll s.sure (s.acts.take k))) (hg : ∀ a ∈ s.acts, a.gone.length ≤ 4194304 ∧ a.come.length ≤ 4194304) (hs : s.steps ≤ 16777216) (hn : n ≤ s.acts.length) :
    Calls Tryz.prog 39 #[.pointer (some ⟨bf, 0, none⟩), .int .i64 (n : Int)] w (SettleP B X w bf (flushD s n)) := by
  have H := Lib.hid h
  have HR := Lib.hid hr
  have HG := Lib.hid hg
  have HN := Lib.hid hn
  have hal : s.acts.length ≤ 16777216 := by have := h.hd; omega
  obtain ⟨sa, sc, hva, hcap⟩ : ∃ sa sc, X.va = .slice sa s.acts.length sc ∧ (s.acts.length ≤ sc ∧ sc ≤ maxLen) := by
    rcases h.row.2 with ⟨e1, e2⟩ | ⟨g, cap, cur, e1, _, _, e2, e3, _⟩
    · exact ⟨none, 0, by rw [e1]; congr 1; exact e2.symm, by omega, by unfold maxLen; omega⟩
    · exact ⟨_, _, e1, e2, e3⟩
  obtain ⟨_, _, _, _, c4, _, _⟩ := h.cells
  rw [hva] at c4
  have hcc := hcap.2
  have hc1 := hcap.1
  unfold maxLen at hcc
  have HVA := Lib.hid hva
  clear h hr hg hva hcap
  obtain ⟨al, hal2⟩ : ∃ k, s.acts.length = k := ⟨_, rfl⟩
  have HAL := Lib.hid hal2
  rw [hal2] at c4 hal hn hc1
  clear hal2
  go_enter Tryz.func39, Tryz.ntmps39
  go_wp2_with fail
  go_loopw [13] (fun i wr => ∃ (k : Nat) (D : DataW Unit), k ≤ n ∧ i = .int .i64 (k : Int) ∧ Hid (MapAt wr X.bd (X.nd + k) D X.fb (doAll s.sure (s.acts.take k))) ∧ Hid (Far (fun q => q = bf ∨ q = X.bd) w wr) ∧ Hid (wr.heap[bf]? = w.heap[bf]?)) (fun i _ => n - (intOf i).toNat)
  case atStart => exact ⟨0, X.Dd, Nat.zero_le _, rfl, Lib.hid H.out.md, Lib.hid (Far.refl _ _), Lib.hid rfl⟩
  case round =>
    obtain ⟨k, D, hk, rfl, hm, hF, hW⟩ := hrel
    by_cases hlt : k < n
    · obtain ⟨g, hg1, hg2, hg3⟩ : ∃ g, sa = some ⟨g, 0, none⟩ ∧ X.T g = .row ∧ ∀ j u, (acsV X.fb s.acts)[j]? = some u → w.cell? ⟨g, j, none⟩ = some u := by
        have hrow := H.out.row
        rw [HVA.out] at hrow
        rcases hrow.2 with ⟨e1, e2⟩ | ⟨g, cap, cur, e1, _⟩
        · have := HN.out; omega
        · injection e1 with e1 _ _
          refine ⟨g, e1, H.out.tr g (by rw [HVA.out, e1]; rfl), fun j u hj => ?_⟩
          have h1 := World.ownsRow.cells hrow (g := g) (by rw [e1]; rfl) j u hj
          rwa [add_pos, Nat.zero_add] at h1
      have hgn : ¬ (g = bf ∨ g = X.bd) := by
        rintro (e | e)
        · rw [e, H.out.tf] at hg2; cases hg2
        · rw [e, H.out.td] at hg2; cases hg2
      have hwg : wr.heap[g]? = w.heap[g]? := hF.out.block g (H.out.dom g (by rw [hg2]; exact fun c => by cases c)).2 hgn
      have hkl : k < s.acts.length := by have := HN.out; omega
      obtain ⟨a, ha⟩ : ∃ a, s.acts.getD k ⟨[], [], none⟩ = a := ⟨_, rfl⟩
      have hcell : ∀ j, j < 3 → ∀ u, (acV X.fb a)[j]? = some u → wr.cell? ⟨g, k * 3 + j, none⟩ = some u := fun j hj u hu => by
        rw [World.cell?_of_block (w := w) (a := ⟨g, k * 3 + j, none⟩) hwg]
        exact hg3 _ _ (by rw [acsV_at _ k j hkl hj, ha]; exact hu)
      have q0 : wr.cell? ⟨g, k * 3, none⟩ = some (.string ⟨a.gone.toArray⟩) := hcell 0 (by omega) _ rfl
      have q1 : wr.cell? ⟨g, k * 3 + 1, none⟩ = some (.string ⟨a.come.toArray⟩) := hcell 1 (by omega) _ rfl
      have q2 : wr.cell? ⟨g, k * 3 + 2, none⟩ = some (acP X.fb a) := hcell 2 (by omega) _ rfl
      have HA : Hid (a.gone.length ≤ 4194304 ∧ a.come.length ≤ 4194304) := Lib.hid (HG.out a (by rw [← ha]; simp [List.getD, hkl]))
      have HTK : Hid (doAll s.sure (s.acts.take (k + 1)) = doA (doAll s.sure (s.acts.take k)) a) := Lib.hid (by rw [doAll_take hkl, ha])
      have HRK := Lib.hid (HR.out k (by omega))
      have HKL := Lib.hid hkl
      subst hg1
      obtain ⟨po, hpo⟩ : ∃ p, acP X.fb a = .pointer p := by unfold acP; cases a.file <;> exact ⟨_, rfl⟩
      rw [hpo] at q2
      have HPO := Lib.hid hpo
      have hk0 : (0 : Int) ≤ (k : Int) := by omega
      have hk1 : (k : Int) < (n : Int) := by omega
      clear hcell hg3 hgn hwg ha hkl hpo
      go_upto_region 3 with fail
      have hnb := new_five wr #[.string ⟨a.gone.toArray⟩, .string ⟨a.come.toArray⟩, .pointer po] 83
      have FA := Lib.hid (Far.alloc (fun q => q = bf ∨ q = X.bd) wr (.cells #[.string ⟨a.gone.toArray⟩, .string ⟨a.come.toArray⟩, .pointer po] 83))
      have hzA : wr.heap.size < (wr.alloc (.cells #[.string ⟨a.gone.toArray⟩, .string ⟨a.come.toArray⟩, .pointer po] 83)).heap.size := by simp
      have hbdl := (H.out.dom X.bd (by rw [H.out.td]; exact fun c => by cases c)).2
      have hbfl := H.out.bfB.2
      have hzw := hF.out.size
      have MA := Lib.hid (hm.out.kept (w' := wr.alloc (.cells #[.string ⟨a.gone.toArray⟩, .string ⟨a.come.toArray⟩, .pointer po] 83)) (Below.heap_alloc _ _ _ (by omega)))
      have WA : Hid ((wr.alloc (.cells #[.string ⟨a.gone.toArray⟩, .string ⟨a.come.toArray⟩, .pointer po] 83)).heap[bf]? = w.heap[bf]?) := Lib.hid ((Below.heap_alloc _ _ _ (by omega)).trans hW.out)
      have NB := Lib.hid hnb
      clear hnb q0 q1 q2
      generalize wr.alloc (.cells #[.string ⟨a.gone.toArray⟩, .string ⟨a.come.toArray⟩, .pointer po] 83) = w2 at *
      have hwd : w2.drewN 1 = w2.drew := rfl
      have F3 : Hid (Far (fun q => q = bf ∨ q = X.bd) wr w2.drew) := Lib.hid (FA.out.trans (Far.drewN _ w2 1))
      have M3 : Hid (MapAt w2.drew X.bd (X.nd + k) D X.fb (doAll s.sure (s.acts.take k))) := Lib.hid (MA.out.kept rfl)
      have W3 : Hid (w2.drew.heap[bf]? = w.heap[bf]?) := WA
      have c3 : w2.drew.cell? ⟨bf, 3, none⟩ = some (.map (some X.bd)) := (World.cell?_of_block (w := w) (a := ⟨bf, 3, none⟩) W3.out).trans H.out.cells.2.2.2.1
      have k0 : w2.drew.cell? ⟨wr.heap.size, 0, none⟩ = some (.string ⟨a.gone.toArray⟩) := (cell_of_row _ _ _ _ _ _ NB.out).trans rfl
      have k1 : w2.drew.cell? ⟨wr.heap.size, 1, none⟩ = some (.string ⟨a.come.toArray⟩) := (cell_of_row _ _ _ _ _ _ NB.out).trans rfl
      have k2 : w2.drew.cell? ⟨wr.heap.size, 2, none⟩ = some (.pointer po) := (cell_of_row _ _ _ _ _ _ NB.out).trans rfl
      have HDO := Lib.hid (show Calls Tryz.prog 55 #[.map (some X.bd), .agg #[.string ⟨a.gone.toArray⟩, .string ⟨a.come.toArray⟩, .pointer po]] w2.drew (DoneP X.bd (X.nd + k + 1) X.fb (doA (doAll s.sure (s.acts.take k)) a) w2.drew) from by
        have h1 := do_any M3.out HRK.out (by have := H.out.hd; have := HAL.out; omega) a HA.out.1 HA.out.2
        unfold acV at h1
        rw [HPO.out] at h1
        exact h1)
      have hbfd : bf ≠ X.bd := fun e => by have := H.out.td; rw [← e, H.out.tf] at this; cases this
      clear hwd
      go_still_tail 5, (by kernel_rfl)
      change wpList _ _ _ _ _ w2.drew
      generalize w2.drew = w3 at *
      clear c3 k0 k1 k2
      go_wp2_with fail
      refine HDO.out.mono ?_
      rintro e w4 ⟨rfl, D4, m4, al4⟩
      have M4 := Lib.hid m4
      have F4 := Lib.hid ((hF.out.trans F3.out).trans (Far.alone (P := fun q => q = bf ∨ q = X.bd) al4 (Or.inr rfl)))
      have W4 : Hid (w4.heap[bf]? = w.heap[bf]?) := Lib.hid ((al4.block bf (by have := F3.out.size; omega) hbfd).trans W3.out)
      clear m4 al4 HDO hbfd
      go_wp2_with fail
      exact ⟨⟨k + 1, D4, by omega, by go_num, Lib.hid (by rw [HTK.out]; exact M4.out), F4, W4⟩, by simp [intOf]; omega⟩
    · obtain rfl : k = n := by omega
      have c4' : wr.cell? ⟨bf, 4, none⟩ = some X.va := (World.cell?_of_block (w := w) (a := ⟨bf, 4, none⟩) hW.out).trans H.out.cells.2.2.2.2.1
      have f4' : wr.frozen? ⟨bf, 4, none⟩ = false := (World.frozen?_of_block (w := w) (a := ⟨bf, 4, none⟩) hW.out).trans (H.out.free 4)
      go_wp2_with fail
      go_end0
      have hbfd : X.bd ≠ bf := fun e => by have := H.out.td; rw [e, H.out.tf] at this; cases this
      have FF := hF.out.trans (Far.alone (P := fun q => q = bf ∨ q = X.bd) (Alone.set bf 4 wr (.slice none 0 0)) (Or.inl rfl))
      obtain ⟨X', q1, q2, q3, q4⟩ := settle_fin H.out HN.out (hm.out.kept (Below.heap_setCell wr _ _ _ hbfd)) FF (by rw [cells_set (hW.out.trans H.out.blk) _]; rfl)
      exact ⟨rfl, X', q1, FF, q2, q3, q4⟩
end Go.Proofs.YtjefcalndfcmdaaGreatDoor
