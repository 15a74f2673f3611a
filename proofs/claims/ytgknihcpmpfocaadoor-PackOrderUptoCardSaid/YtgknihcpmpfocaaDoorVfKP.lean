/- A new file system; changes of names made durable. All changes of names durable; a crash. A crash. The walk of a crash. All names in order. A file system that a call holds, with what lies beside it; the laws' awake. -/
import Derived.Test.YtgknihcpmpfocaaDoorVfGJ
import Derived.Test.YtgknihcpmpfocaaDoorShelfM
import Derived.Maps.RangeWalk
import Derived.Sort.KeysCollected
import Derived.WalkKit
import Derived.Lib.SlBytesConst
namespace Go.Proofs.YtgknihcpmpfocaaDoor
open Go.RowKit Go.Maps
attribute [local go_sem ↓] Go.wp_at_zero Go.wp_at_succ
def newS (n : Nat) : Fs := ⟨[], [], [], [], n, 0, -1, 0⟩
theorem newS_ok {n : Nat} (h : n ≤ 4194304) : FsOk (newS n) := by
  refine ⟨rfl, fun k hk => ?_, fun a ha => (by cases ha), fun f hf => (by cases hf), Nat.le_refl _, h, by show (-9223372036854775808 : Int) ≤ -1; omega, by show (-1 : Int) ≤ 9223372036854775807; omega⟩
  have : k = 0 := Nat.le_zero.1 hk
  subst this
  exact dirOk_nil _
def NewP (B : Nat) (w : World) (n : Nat) (e : Ending) (w' : World) : Prop := ∃ X bf, e = .returned (.tuple #[.pointer (some ⟨bf, 0, none⟩), .int .i64 0]) ∧ FsAt B X w' bf (newS n) ∧ Below w.heap.size w w' ∧ ∀ k, X.T k ≠ .no → w.heap.size ≤ k
theorem new_bad (n : Int) (w : World) (h : n < 0 ∨ 4194304 < n) : Calls Tryd.prog 9 #[.int .i64 n] w fun e w' => e = .returned (.tuple #[.pointer none, .int .i64 1]) ∧ w = w' := by
  by_cases h1 : n < 0
  · have g1 : decide (n < 0) = true := decide_eq_true h1
    go_enter Tryd.func9, Tryd.ntmps9
    go_wp2_with fail
    go_ret2
    exact ⟨rfl, rfl⟩
  · have g1 : decide (n < 0) = false := decide_eq_false h1
    have g2 : decide (n > 4194304) = true := decide_eq_true (by omega)
    clear h
    go_enter Tryd.func9, Tryd.ntmps9
    go_wp2_with fail
    go_ret2
    exact ⟨rfl, rfl⟩
set_option maxHeartbeats 1000000 in
theorem new_any (B : Nat) (n : Nat) (w : World) (h : n ≤ 4194304) (hB : B ≤ w.heap.size) : Calls Tryd.prog 9 #[.int .i64 (n : Int)] w (NewP B w n) := by
  have hmm := @run_makeMap Tryd.prog
  have g1 : decide ((n : Int) < 0) = false := decide_eq_false (by omega)
  have g2 : decide ((n : Int) > 4194304) = false := decide_eq_false (by omega)
  have HB := Lib.hid hB
  clear h hB
  go_enter Tryd.func9, Tryd.ntmps9
  go_wp2_with fail
  go_ret2
  have hbb := HB.out
  refine ⟨{ T := fun k => if k = w.heap.size then .now else if k = w.heap.size + 1 then .sure else if k = w.heap.size + 2 then .fs else .no, bn := w.heap.size, bd := w.heap.size + 1, nn := 0, nd := 0, va := .slice none 0 0, Dn := .map [], Dd := .map [], fb := fun _ => 0, dv := fun _ => .slice none 0 0 }, w.heap.size + 2, rfl, ⟨fun k hk => ?_, ?_, ?_, ?_, fun k e => ?_, ?_, ?_, ?_, Nat.le_refl _, Nat.le_refl _, World.ownsRow_nil _ _ _ _, fun i hi => ?_⟩, (((Below.refl _ w).alloc (Nat.le_refl _) _).alloc (by simp) _).alloc (by simp; omega) _, fun k hk => ?_⟩
  · have hk2 : (if k = w.heap.size then Role.now else if k = w.heap.size + 1 then .sure else if k = w.heap.size + 2 then .fs else .no) ≠ .no := hk
    by_cases a : k = w.heap.size
    · simp; omega
    · by_cases b : k = w.heap.size + 1
      · simp; omega
      · by_cases c : k = w.heap.size + 2
        · simp; omega
        · rw [if_neg a, if_neg b, if_neg c] at hk2; exact absurd rfl hk2
  · simp
  · simp
  · simp
  · simp [Value.ownBlock] at e
  · have := new_five ((w.alloc (.map #[] 0)).alloc (.map #[] 0)) #[.int .i64 (n : Int), .int .i64 0, .map (some w.heap.size), .map (some (w.heap.size + 1)), .slice none 0 0, .int .i64 0, .int .i64 (-1)] 70
    have e : ((w.alloc (.map #[] 0)).alloc (.map #[] 0)).heap.size = w.heap.size + 2 := by simp
    rw [e] at this
    exact this
  · exact ((MapAt.made w (fun _ => 0)).kept (Below.heap_alloc _ _ _ (by simp))).kept (Below.heap_alloc _ _ _ (by simp; omega))
  · have h1 := MapAt.made (w.alloc (.map #[] 0)) (fun _ => 0)
    have h2 : (w.alloc (.map #[] 0)).heap.size = w.heap.size + 1 := by simp
    rw [h2] at h1
    exact h1.kept (Below.heap_alloc _ _ _ (by simp))
  · rcases hi with ⟨p, hp, _⟩ | ⟨a, ha, _⟩
    · cases hp
    · cases ha
  · have hk2 : (if k = w.heap.size then Role.now else if k = w.heap.size + 1 then .sure else if k = w.heap.size + 2 then .fs else .no) ≠ .no := hk
    by_cases a : k < w.heap.size
    · rw [if_neg (by omega), if_neg (by omega), if_neg (by omega)] at hk2; exact absurd rfl hk2
    · omega
def flushD (s : Fs) (n : Nat) : Fs := { s with sure := doAll s.sure (s.acts.take n), acts := [] }
def SettleP (B : Nat) (X : FsX) (w : World) (bf : Nat) (s' : Fs) (e : Ending) (w' : World) : Prop :=
  e = .returned (.tuple #[]) ∧ ∃ X', FsAt B X' w' bf s' ∧ Far (fun k => k = bf ∨ k = X.bd) w w' ∧ X'.T = X.T ∧ X'.bd = X.bd ∧ X'.bn = X.bn
theorem doAll_take {l : Dir} {ac : List Ac} {k : Nat} (h : k < ac.length) : doAll l (ac.take (k + 1)) = doA (doAll l (ac.take k)) (ac.getD k ⟨[], [], none⟩) := by
  rw [List.take_add_one, List.getElem?_eq_getElem h]
  show doAll l (ac.take k ++ [ac[k]]) = _
  rw [doAll_snoc]
  simp [List.getD, h]
/-- A change in its row. -/
theorem acsV_at {fb : Nat → Nat} : ∀ (l : List Ac) (k j : Nat), k < l.length → j < 3 → (acsV fb l)[k * 3 + j]? = (acV fb (l.getD k ⟨[], [], none⟩))[j]?
  | [], k, _, h, _ => by cases h
  | a :: l, k, j, h, hj => by
    have e : acsV fb (a :: l) = acV fb a ++ acsV fb l := by unfold acsV; simp
    rw [e]
    cases k with
    | zero =>
      rw [Nat.zero_mul, Nat.zero_add, List.getElem?_append_left (by rw [acV_len]; exact hj)]
      rfl
    | succ k =>
      rw [List.getElem?_append_right (by rw [acV_len]; omega), acV_len, show (k + 1) * 3 + j - 3 = k * 3 + j by omega, acsV_at l k j (by simpa using h) hj]
      rfl
theorem settle_fin {B : Nat} {X : FsX} {w wF : World} {bf n : Nat} {s : Fs} {D : DataW Unit} (h : FsAt B X w bf s) (hn : n ≤ s.acts.length) (hm : MapAt wF X.bd (X.nd + n) D X.fb (doAll s.sure (s.acts.take n)))
    (hF : Far (fun k => k = bf ∨ k = X.bd) w wF) (hb : wF.heap[bf]? = some (.cells #[.int .i64 (s.room : Int), .int .i64 (used s : Int), .map (some X.bn), .map (some X.bd), .slice none 0 0, .int .i64 (stV s), .int .i64 s.more] 70 (0, 0))) :
    ∃ X', FsAt B X' wF bf (flushD s n) ∧ X'.T = X.T ∧ X'.bd = X.bd ∧ X'.bn = X.bn := by
  have hlt : ∀ k, X.T k ≠ .no → k < w.heap.size := fun k ht => (h.dom k ht).2
  have hK : ∀ k r, X.T k = r → r ≠ .no → r ≠ .fs → r ≠ .sure → wF.heap[k]? = w.heap[k]? := fun k r e h1 h2 h3 => hF.block k (hlt k (by rw [e]; exact h1)) (by
    rintro (e2 | e2)
    · rw [e2, h.tf] at e; exact h2 e.symm
    · rw [e2, h.td] at e; exact h3 e.symm)
  refine ⟨{ X with va := .slice none 0 0, Dd := D, nd := X.nd + n }, ⟨fun k ht => ⟨(h.dom k ht).1, Nat.lt_of_lt_of_le (h.dom k ht).2 hF.size⟩, h.tf, h.tn, h.td, fun k e => by simp [Value.ownBlock] at e, hb, ?_, hm, h.hn, ?_, World.ownsRow_nil _ _ _ _, fun i hi => ?_⟩, rfl, rfl, rfl⟩
  · exact h.mn.kept (hK _ _ h.tn (fun c => by cases c) (fun c => by cases c) (fun c => by cases c))
  · have := h.hd; show X.nd + n + 0 ≤ s.steps; omega
  · have hl : Live s i := by
      rcases hi with ⟨p, hp, e⟩ | ⟨a, ha, _⟩
      · rcases doAll_mem hp with h1 | ⟨a, ha, e2⟩
        · exact Or.inl ⟨p, h1, e⟩
        · exact Or.inr ⟨a, List.mem_of_mem_take ha, by rw [e2, e]⟩
      · cases ha
    have hf := h.fil i hl
    have hk := hf.kept (w' := wF) (fun k e => by
      rcases e with e | e
      · exact hK _ _ e (fun c => by cases c) (fun c => by cases c) (fun c => by cases c)
      · exact hK _ _ e (fun c => by cases c) (fun c => by cases c) (fun c => by cases c)) hF.size
    exact ⟨hk.tb, hk.tv, hk.blk, hk.row⟩
set_option maxRecDepth 100000 in
set_option maxHeartbeats 4000000 in
theorem settle_any {B : Nat} {X : FsX} {w : World} {bf n : Nat} {s : Fs} (h : FsAt B X w bf s) (hr : ∀ k, k ≤ s.acts.length → Rise (doAll s.sure (s.acts.take k))) (hg : ∀ a ∈ s.acts, a.gone.length ≤ 4194304 ∧ a.come.length ≤ 4194304) (hs : s.steps ≤ 16777216) (hn : n ≤ s.acts.length) :
    Calls Tryd.prog 42 #[.pointer (some ⟨bf, 0, none⟩), .int .i64 (n : Int)] w (SettleP B X w bf (flushD s n)) := by
  have H := Lib.hid h
  have HR := Lib.hid hr
  have HG := Lib.hid hg
  have HN := Lib.hid hn
  have hal : s.acts.length ≤ 16777216 := by have := h.hd; omega
  obtain ⟨sa, sc, hva, hcap⟩ : ∃ sa sc, X.va = .slice sa s.acts.length sc ∧ (s.acts.length ≤ sc ∧ sc ≤ maxLen) := by
    rcases h.row.2 with ⟨e1, e2⟩ | ⟨g, cap, cur, e1, _, _, e2, e3, _⟩
    · exact ⟨none, 0, by rw [e1]; congr 1; exact e2.symm, by omega, by unfold maxLen; omega⟩
    · exact ⟨_, _, e1, e2, e3⟩
  obtain ⟨_, _, _, _, c4, _, _⟩ := h.cells
  rw [hva] at c4
  have hcc := hcap.2
  have hc1 := hcap.1
  unfold maxLen at hcc
  have HVA := Lib.hid hva
  clear h hr hg hva hcap
  obtain ⟨al, hal2⟩ : ∃ k, s.acts.length = k := ⟨_, rfl⟩
  have HAL := Lib.hid hal2
  rw [hal2] at c4 hal hn hc1
  clear hal2
  go_enter Tryd.func42, Tryd.ntmps42
  go_wp2_with fail
  go_loopw [13] (fun i wr => ∃ (k : Nat) (D : DataW Unit), k ≤ n ∧ i = .int .i64 (k : Int) ∧ Hid (MapAt wr X.bd (X.nd + k) D X.fb (doAll s.sure (s.acts.take k))) ∧ Hid (Far (fun q => q = bf ∨ q = X.bd) w wr) ∧ Hid (wr.heap[bf]? = w.heap[bf]?)) (fun i _ => n - (intOf i).toNat)
  case atStart => exact ⟨0, X.Dd, Nat.zero_le _, rfl, Lib.hid H.out.md, Lib.hid (Far.refl _ _), Lib.hid rfl⟩
  case round =>
    obtain ⟨k, D, hk, rfl, hm, hF, hW⟩ := hrel
    by_cases hlt : k < n
    · obtain ⟨g, hg1, hg2, hg3⟩ : ∃ g, sa = some ⟨g, 0, none⟩ ∧ X.T g = .row ∧ ∀ j u, (acsV X.fb s.acts)[j]? = some u → w.cell? ⟨g, j, none⟩ = some u := by
        have hrow := H.out.row
        rw [HVA.out] at hrow
        rcases hrow.2 with ⟨e1, e2⟩ | ⟨g, cap, cur, e1, _⟩
        · have := HN.out; omega
        · injection e1 with e1 _ _
          refine ⟨g, e1, H.out.tr g (by rw [HVA.out, e1]; rfl), fun j u hj => ?_⟩
          have h1 := World.ownsRow.cells hrow (g := g) (by rw [e1]; rfl) j u hj
          rwa [add_pos, Nat.zero_add] at h1
      have hgn : ¬ (g = bf ∨ g = X.bd) := by
        rintro (e | e)
        · rw [e, H.out.tf] at hg2; cases hg2
        · rw [e, H.out.td] at hg2; cases hg2
      have hwg : wr.heap[g]? = w.heap[g]? := hF.out.block g (H.out.dom g (by rw [hg2]; exact fun c => by cases c)).2 hgn
      have hkl : k < s.acts.length := by have := HN.out; omega
      obtain ⟨a, ha⟩ : ∃ a, s.acts.getD k ⟨[], [], none⟩ = a := ⟨_, rfl⟩
      have hcell : ∀ j, j < 3 → ∀ u, (acV X.fb a)[j]? = some u → wr.cell? ⟨g, k * 3 + j, none⟩ = some u := fun j hj u hu => by
        rw [World.cell?_of_block (w := w) (a := ⟨g, k * 3 + j, none⟩) hwg]
        exact hg3 _ _ (by rw [acsV_at _ k j hkl hj, ha]; exact hu)
      have q0 : wr.cell? ⟨g, k * 3, none⟩ = some (.string ⟨a.gone.toArray⟩) := hcell 0 (by omega) _ rfl
      have q1 : wr.cell? ⟨g, k * 3 + 1, none⟩ = some (.string ⟨a.come.toArray⟩) := hcell 1 (by omega) _ rfl
      have q2 : wr.cell? ⟨g, k * 3 + 2, none⟩ = some (acP X.fb a) := hcell 2 (by omega) _ rfl
      have HA : Hid (a.gone.length ≤ 4194304 ∧ a.come.length ≤ 4194304) := Lib.hid (HG.out a (by rw [← ha]; simp [List.getD, hkl]))
      have HTK : Hid (doAll s.sure (s.acts.take (k + 1)) = doA (doAll s.sure (s.acts.take k)) a) := Lib.hid (by rw [doAll_take hkl, ha])
      have HRK := Lib.hid (HR.out k (by omega))
      have HKL := Lib.hid hkl
      subst hg1
      obtain ⟨po, hpo⟩ : ∃ p, acP X.fb a = .pointer p := by unfold acP; cases a.file <;> exact ⟨_, rfl⟩
      rw [hpo] at q2
      have HPO := Lib.hid hpo
      have hk0 : (0 : Int) ≤ (k : Int) := by omega
      have hk1 : (k : Int) < (n : Int) := by omega
      clear hcell hg3 hgn hwg ha hkl hpo
      go_upto_region 3 with fail
      have hnb := new_five wr #[.string ⟨a.gone.toArray⟩, .string ⟨a.come.toArray⟩, .pointer po] 101
      have FA := Lib.hid (Far.alloc (fun q => q = bf ∨ q = X.bd) wr (.cells #[.string ⟨a.gone.toArray⟩, .string ⟨a.come.toArray⟩, .pointer po] 101))
      have hzA : wr.heap.size < (wr.alloc (.cells #[.string ⟨a.gone.toArray⟩, .string ⟨a.come.toArray⟩, .pointer po] 101)).heap.size := by simp
      have hbdl := (H.out.dom X.bd (by rw [H.out.td]; exact fun c => by cases c)).2
      have hbfl := H.out.bfB.2
      have hzw := hF.out.size
      have MA := Lib.hid (hm.out.kept (w' := wr.alloc (.cells #[.string ⟨a.gone.toArray⟩, .string ⟨a.come.toArray⟩, .pointer po] 101)) (Below.heap_alloc _ _ _ (by omega)))
      have WA : Hid ((wr.alloc (.cells #[.string ⟨a.gone.toArray⟩, .string ⟨a.come.toArray⟩, .pointer po] 101)).heap[bf]? = w.heap[bf]?) := Lib.hid ((Below.heap_alloc _ _ _ (by omega)).trans hW.out)
      have NB := Lib.hid hnb
      clear hnb q0 q1 q2
      generalize wr.alloc (.cells #[.string ⟨a.gone.toArray⟩, .string ⟨a.come.toArray⟩, .pointer po] 101) = w2 at *
      have hwd : w2.drewN 1 = w2.drew := rfl
      have F3 : Hid (Far (fun q => q = bf ∨ q = X.bd) wr w2.drew) := Lib.hid (FA.out.trans (Far.drewN _ w2 1))
      have M3 : Hid (MapAt w2.drew X.bd (X.nd + k) D X.fb (doAll s.sure (s.acts.take k))) := Lib.hid (MA.out.kept rfl)
      have W3 : Hid (w2.drew.heap[bf]? = w.heap[bf]?) := WA
      have c3 : w2.drew.cell? ⟨bf, 3, none⟩ = some (.map (some X.bd)) := (World.cell?_of_block (w := w) (a := ⟨bf, 3, none⟩) W3.out).trans H.out.cells.2.2.2.1
      have k0 : w2.drew.cell? ⟨wr.heap.size, 0, none⟩ = some (.string ⟨a.gone.toArray⟩) := (cell_of_row _ _ _ _ _ _ NB.out).trans rfl
      have k1 : w2.drew.cell? ⟨wr.heap.size, 1, none⟩ = some (.string ⟨a.come.toArray⟩) := (cell_of_row _ _ _ _ _ _ NB.out).trans rfl
      have k2 : w2.drew.cell? ⟨wr.heap.size, 2, none⟩ = some (.pointer po) := (cell_of_row _ _ _ _ _ _ NB.out).trans rfl
      have HDO := Lib.hid (show Calls Tryd.prog 55 #[.map (some X.bd), .agg #[.string ⟨a.gone.toArray⟩, .string ⟨a.come.toArray⟩, .pointer po]] w2.drew (DoneP X.bd (X.nd + k + 1) X.fb (doA (doAll s.sure (s.acts.take k)) a) w2.drew) from by
        have h1 := do_any M3.out HRK.out (by have := H.out.hd; have := HAL.out; omega) a HA.out.1 HA.out.2
        unfold acV at h1
        rw [HPO.out] at h1
        exact h1)
      have hbfd : bf ≠ X.bd := fun e => by have := H.out.td; rw [← e, H.out.tf] at this; cases this
      clear hwd
      go_still_tail 5, (by kernel_rfl)
      change wpList _ _ _ _ _ w2.drew
      generalize w2.drew = w3 at *
      clear c3 k0 k1 k2
      go_wp2_with fail
      refine HDO.out.mono ?_
      rintro e w4 ⟨rfl, D4, m4, al4⟩
      have M4 := Lib.hid m4
      have F4 := Lib.hid ((hF.out.trans F3.out).trans (Far.alone (P := fun q => q = bf ∨ q = X.bd) al4 (Or.inr rfl)))
      have W4 : Hid (w4.heap[bf]? = w.heap[bf]?) := Lib.hid ((al4.block bf (by have := F3.out.size; omega) hbfd).trans W3.out)
      clear m4 al4 HDO hbfd
      go_wp2_with fail
      exact ⟨⟨k + 1, D4, by omega, by go_num, Lib.hid (by rw [HTK.out]; exact M4.out), F4, W4⟩, by simp [intOf]; omega⟩
    · obtain rfl : k = n := by omega
      have c4' : wr.cell? ⟨bf, 4, none⟩ = some X.va := (World.cell?_of_block (w := w) (a := ⟨bf, 4, none⟩) hW.out).trans H.out.cells.2.2.2.2.1
      have f4' : wr.frozen? ⟨bf, 4, none⟩ = false := (World.frozen?_of_block (w := w) (a := ⟨bf, 4, none⟩) hW.out).trans (H.out.free 4)
      go_wp2_with fail
      go_end0
      have hbfd : X.bd ≠ bf := fun e => by have := H.out.td; rw [e, H.out.tf] at this; cases this
      have FF := hF.out.trans (Far.alone (P := fun q => q = bf ∨ q = X.bd) (Alone.set bf 4 wr (.slice none 0 0)) (Or.inl rfl))
      obtain ⟨X', q1, q2, q3, q4⟩ := settle_fin H.out HN.out (hm.out.kept (Below.heap_setCell wr _ _ _ hbfd)) FF (by rw [cells_set (hW.out.trans H.out.blk) _]; rfl)
      exact ⟨rfl, X', q1, FF, q2, q3, q4⟩
end Go.Proofs.YtgknihcpmpfocaaDoor
namespace Go.Proofs.YtgknihcpmpfocaaDoor
open Go.RowKit Go.Maps
theorem FsUp.far_of {B : Nat} {X X' : FsX} {w w' : World} {P : Nat → Prop} (h : Far P w w') (hP : ∀ k, P k → X.T k ≠ .no) (hd : ∀ k, X.T k ≠ .no → B ≤ k) (hB : B ≤ w.heap.size) (hT : X'.T = X.T) : FsUp B X w X' w' :=
  ⟨h.below (fun k hk => hd k (hP k hk)) hB, fun k hk ht => h.block k hk (fun e => hP k e ht), fun k hk => Or.inl (by rw [hT] at hk; exact hk)⟩
def flushS (s : Fs) : Fs × Int := if s.more = 0 then (s, 190) else (flushD (tick s) s.acts.length, 0)
theorem flushD_ok {s : Fs} (ok : FsOk s) : FsOk (flushD s s.acts.length) := by
  have h1 : doAll s.sure (s.acts.take s.acts.length) = s.now := by rw [List.take_length, ok.eq]
  refine ⟨?_, fun k hk => ?_, fun a ha => (by cases ha), ok.dat, ?_, ok.room, ok.lo, ok.hi⟩
  · show s.now = doAll (doAll s.sure (s.acts.take s.acts.length)) []
    rw [h1]; rfl
  · show DirOk s.files.length (doAll (doAll s.sure (s.acts.take s.acts.length)) (List.take k []))
    rw [h1, List.take_nil]; exact ok.nowOk
  · show (doAll s.sure (s.acts.take s.acts.length)).length + 0 ≤ s.steps
    rw [h1]; exact ok.nowLen
theorem flushS_ok {s : Fs} (ok : FsOk s) : FsOk (flushS s).1 := by
  unfold flushS
  by_cases h3 : s.more = 0
  · rw [if_pos h3]; exact ok
  · rw [if_neg h3]; exact flushD_ok ok.tick
theorem FsOk.lens {s : Fs} (ok : FsOk s) : ∀ a ∈ s.acts, a.gone.length ≤ 4194304 ∧ a.come.length ≤ 4194304 := fun a ha => by
  have := ok.acts a ha; omega
set_option maxHeartbeats 1000000 in
theorem flush_any {B : Nat} {X : FsX} {w : World} {bf : Nat} {s : Fs} (h : FsAt B X w bf s) (ok : FsOk s) (hs : s.steps ≤ 16777214) :
    Calls Tryd.prog 21 #[.pointer (some ⟨bf, 0, none⟩)] w (FsP B X w bf (.int .i64 (flushS s).2) (flushS s).1) := by
  have H := Lib.hid h
  have OK := Lib.hid ok
  obtain ⟨r, hr⟩ : ∃ r, flushS s = r := ⟨_, rfl⟩
  have HR := Lib.hid hr
  rw [hr]
  clear h ok hr
  by_cases hm : s.more = 0
  · have HM := Lib.hid hm
    clear hm
    go_enter Tryd.func21, Tryd.ntmps21
    go_wp2_with fail
    refine (step_cut H.out HM.out).mono ?_
    rintro e w1 ⟨rfl, rfl⟩
    go_wp2_with fail
    go_ret
    rw [← HR.out]
    unfold flushS
    rw [if_pos HM.out]
    exact ⟨rfl, X, H.out, FsUp.refl _ _ _⟩
  · have HM := Lib.hid hm
    clear hm
    go_enter Tryd.func21, Tryd.ntmps21
    go_wp2_with fail
    refine (step_ok H.out OK.out (by omega) HM.out).mono ?_
    rintro e w1 ⟨rfl, hh1, al1⟩
    have H1 := Lib.hid hh1
    have A1 := Lib.hid al1
    clear hh1 al1
    obtain ⟨_, _, _, _, c4, _, _⟩ := H1.out.cells
    obtain ⟨sa, sc, hva⟩ : ∃ sa sc, X.va = .slice sa s.acts.length sc := by
      rcases H.out.row.2 with ⟨e1, e2⟩ | ⟨g, cap, cur, e1, _⟩
      · exact ⟨none, 0, by rw [e1]; congr 1; exact e2.symm⟩
      · exact ⟨_, _, e1⟩
    rw [hva] at c4
    clear hva
    have HS := Lib.hid (settle_any (n := s.acts.length) H1.out (fun k hk => (OK.out.dirs k hk).rise) OK.out.lens (by show s.steps + 1 ≤ _; omega) (Nat.le_refl _))
    obtain ⟨al, hal⟩ : ∃ n, s.acts.length = n := ⟨_, rfl⟩
    have HAL := Lib.hid hal
    rw [hal] at c4 HS
    clear hal
    go_wp2_with fail
    refine HS.out.mono ?_
    rintro e w2 ⟨rfl, X', h2, f2, t2, _, _⟩
    have H2 := Lib.hid h2
    have F2 := Lib.hid f2
    have T2 := Lib.hid t2
    clear h2 f2 t2 c4 HS
    go_wp2_with fail
    go_ret
    rw [← HR.out]
    unfold flushS
    rw [if_neg HM.out, HAL.out]
    refine ⟨rfl, X', H2.out, (FsUp.alone H.out A1.out).trans (FsUp.far_of F2.out (fun k e => ?_) (fun k hk => (H1.out.dom k hk).1) H1.out.baseB T2.out)⟩
    rcases e with e | e
    · rw [e, H1.out.tf]; exact fun c => by cases c
    · rw [e, H1.out.td]; exact fun c => by cases c
end Go.Proofs.YtgknihcpmpfocaaDoor
namespace Go.Proofs.YtgknihcpmpfocaaDoor
open Go.RowKit Go.Maps
def cutF (b : Int) (f : Fi) : Fi := ⟨f.data.take (f.dur + clampI b (f.data.length - f.dur)), f.dur + clampI b (f.data.length - f.dur)⟩
def crashS (s : Fs) (acts bytes : Int) : Fs :=
  { files := s.files.map (cutF bytes), now := doAll s.sure (s.acts.take (clampI acts s.acts.length)), sure := doAll s.sure (s.acts.take (clampI acts s.acts.length)), acts := [], room := s.room, steps := s.steps, more := -1, lead := s.lead }
theorem clampI_le (n : Int) (m : Nat) : clampI n m ≤ m := by unfold clampI; omega
theorem cutF_len {b : Int} {f : Fi} (h : f.dur ≤ f.data.length) : f.dur + clampI b (f.data.length - f.dur) ≤ f.data.length ∧ (cutF b f).data.length = f.dur + clampI b (f.data.length - f.dur) := by
  have := clampI_le b (f.data.length - f.dur)
  refine ⟨by omega, ?_⟩
  unfold cutF
  rw [List.length_take]; omega
theorem crashS_ok {s : Fs} (ok : FsOk s) (acts bytes : Int) : FsOk (crashS s acts bytes) := by
  have hl : (s.files.map (cutF bytes)).length = s.files.length := List.length_map ..
  have hd := ok.dirs _ (clampI_le acts s.acts.length)
  refine ⟨rfl, fun k hk => ?_, fun a ha => (by cases ha), fun f hf => ?_, ?_, ok.room, by show (-9223372036854775808 : Int) ≤ -1; omega, by show (-1 : Int) ≤ 9223372036854775807; omega⟩
  · show DirOk (s.files.map (cutF bytes)).length (doAll (doAll s.sure (s.acts.take (clampI acts s.acts.length))) (List.take k []))
    rw [List.take_nil, hl]; exact hd
  · obtain ⟨g, hg, rfl⟩ := List.mem_map.1 hf
    have h1 := ok.dat g hg
    have h2 := cutF_len (b := bytes) h1.1
    refine ⟨by rw [h2.2]; exact Nat.le_refl _, by rw [h2.2]; omega⟩
  · have h1 := doAll_len s.sure (s.acts.take (clampI acts s.acts.length))
    have h2 := ok.cnt
    rw [List.length_take] at h1
    show (doAll s.sure (s.acts.take (clampI acts s.acts.length))).length + 0 ≤ s.steps
    omega
theorem ranges_kept {P : Program} {k : TypeId} {R : Value → Option (DataW Unit × List MemPlace)} {w w' : World} {b r n : Nat} {D : DataW Unit} {left : Lit → Bool} {cnt : Nat} (h : w.ranges P k R b r n D left cnt) (hb : w'.heap[b]? = w.heap[b]?) (hr : w'.heap[r]? = w.heap[r]?) : w'.ranges P k R b r n D left cnt := by
  obtain ⟨es, clock, since, seen, c0, h1, F, hs, hD, h2, rest⟩ := h
  exact ⟨es, clock, since, seen, c0, hb.trans h1, F, hs, hD, hr.trans h2, rest⟩
def mkK (x : Nm) : Value := .string ⟨x.toArray⟩
def mkV (o : Option Nat) : Value := .pointer (o.map fun b => ⟨b, 0, none⟩)
theorem keyOf_str_inv {key : Value} {kl : Lit} (h : keyOf Tryd.prog 9 key = some kl) : ∃ x : Nm, key = mkK x ∧ kl = .string x := by
  cases key <;> simp [keyOf, Tryd.underlying9, mapKey] at h
  rename_i s
  obtain ⟨_, rfl⟩ := h
  exact ⟨s.data.toList, by unfold mkK; simp, rfl⟩
theorem ptrR_inv {v : Value} {y : DataW Unit × List MemPlace} (h : ptrR v = some y) : ∃ c, v = mkV c := by
  unfold ptrR at h
  split at h
  · exact ⟨none, rfl⟩
  · exact ⟨some _, rfl⟩
  · cases h
/-- An entry of a map of names. -/
theorem entry_of {w : World} {b n : Nat} {D : DataW Unit} {fb : Nat → Nat} {l : Dir} (h : MapAt w b n D fb l) {x : Nm} {c : Option Nat} {y : DataW Unit × List MemPlace} (hy : ptrR (mkV c) = some y) (hat : ∀ zd, D.atKey (.string x) zd = y.1) : ∃ i, (x, i) ∈ l ∧ c = some (fb i) := by
  have h1 := h.at_ x
  unfold fndB at h1
  cases hf : fnd l x with
  | none =>
    rw [hf] at h1
    have h2 := (hat (.lit (.int .i64 0))).symm.trans (h1 _)
    have h3 := (hat (.lit (.int .i64 1))).symm.trans (h1 _)
    rw [h2] at h3
    simp at h3
  | some i =>
    rw [hf] at h1
    have h2 := (hat (.lit (.int .i64 0))).symm.trans (h1 _)
    refine ⟨i, fnd_mem hf, ?_⟩
    cases c with
    | none =>
      have e : y = (.lit (.int .i64 (-1)), []) := by
        have : ptrR (mkV none) = some (.lit (.int .i64 (-1)), []) := rfl
        rw [this] at hy; injection hy with hy; exact hy.symm
      rw [e] at h2
      simp at h2
    | some k =>
      have e : y = (.lit (.int .i64 (k : Int)), []) := by
        have : ptrR (mkV (some k)) = some (.lit (.int .i64 (k : Int)), []) := rfl
        rw [this] at hy; injection hy with hy; exact hy.symm
      rw [e] at h2
      simp at h2
      have : k = fb i := by omega
      rw [this]
theorem has_name {w : World} {b n : Nat} {D : DataW Unit} {fb : Nat → Nat} {l : Dir} (h : MapAt w b n D fb l) (hr : Rise l) {p : Nm × Nat} (hp : p ∈ l) : Maps.has D (.string p.1) = true := by
  cases e : Maps.has D (.string p.1) with
  | true => rfl
  | false =>
    have h1 := atKey_of_not_has e (.lit (.int .i64 (-1)))
    rw [h.at_] at h1
    unfold fndB at h1
    rw [mem_fnd hr (show (p.1, p.2) ∈ l from hp)] at h1
    simp at h1
theorem sameKey_str (a b : Nm) : (Lit.string a).sameKey (.string b) = decide (a = b) := by
  show (a == b) = _
  by_cases h : a = b
  · rw [decide_eq_true h]; exact beq_iff_eq.2 h
  · rw [decide_eq_false h]; exact beq_eq_false_iff_ne.2 h
/-- A file, cut or still to be cut. -/
def stageF (b : Int) (left : Lit → Bool) (fs : List Fi) (p : Nm × Nat) : Fi := if left (.string p.1) = true then fs.getD p.2 noFi else cutF b (fs.getD p.2 noFi)
def doneU (b : Int) (left : Lit → Bool) (fs : List Fi) : Dir → Nat
  | [] => 0
  | p :: r => (if left (.string p.1) = true then 0 else (cutF b (fs.getD p.2 noFi)).data.length) + doneU b left fs r
theorem doneU_start {b : Int} {left : Lit → Bool} {fs : List Fi} {l : Dir} (h : ∀ p ∈ l, left (.string p.1) = true) : doneU b left fs l = 0 := by
  induction l with
  | nil => rfl
  | cons p r ih =>
    show (if left (.string p.1) = true then 0 else _) + doneU b left fs r = 0
    rw [if_pos (h p List.mem_cons_self), ih (fun q hq => h q (List.mem_cons_of_mem _ hq))]
theorem doneU_end {b : Int} {left : Lit → Bool} {fs : List Fi} {l : Dir} (h : ∀ kl, left kl = false) (hl : ∀ p ∈ l, p.2 < fs.length) : doneU b left fs l = usedD (fs.map (cutF b)) l := by
  induction l with
  | nil => rfl
  | cons p r ih =>
    show (if left (.string p.1) = true then 0 else _) + doneU b left fs r = ((fs.map (cutF b)).getD p.2 noFi).data.length + usedD (fs.map (cutF b)) r
    rw [if_neg (by rw [h]; decide), ih (fun q hq => hl q (List.mem_cons_of_mem _ hq))]
    have e : (fs.map (cutF b)).getD p.2 noFi = cutF b (fs.getD p.2 noFi) := by
      have := hl p List.mem_cons_self
      simp [List.getD, this]
    rw [e]
theorem doneU_step {b : Int} {left : Lit → Bool} {fs : List Fi} {l : Dir} (hr : Rise l) {x : Nm} {i : Nat} (hm : (x, i) ∈ l) (hx : left (.string x) = true) :
    doneU b (fun z => left z && !z.sameKey (.string x)) fs l = doneU b left fs l + (cutF b (fs.getD i noFi)).data.length := by
  induction l with
  | nil => cases hm
  | cons p r ih =>
    obtain ⟨h1, h2⟩ := List.pairwise_cons.1 hr
    show (if (left (.string p.1) && !(Lit.string p.1).sameKey (.string x)) = true then 0 else _) + doneU b (fun z => left z && !z.sameKey (.string x)) fs r = (if left (.string p.1) = true then 0 else _) + doneU b left fs r + _
    rw [sameKey_str]
    rcases List.mem_cons.1 hm with e | hm
    · have e1 : p.1 = x := by rw [← e]
      have e2 : p.2 = i := by rw [← e]
      have hrest : doneU b (fun z => left z && !z.sameKey (.string x)) fs r = doneU b left fs r := by
        have hne : ∀ q ∈ r, q.1 ≠ x := fun q hq e3 => nm_irrefl x (by have := h1 q hq; rwa [e1, e3] at this)
        clear ih hm hr h1 h2
        induction r with
        | nil => rfl
        | cons q t ih =>
          show (if (left (.string q.1) && !(Lit.string q.1).sameKey (.string x)) = true then 0 else _) + _ = (if left (.string q.1) = true then 0 else _) + _
          rw [sameKey_str, decide_eq_false (hne q List.mem_cons_self), ih (fun z hz => hne z (List.mem_cons_of_mem _ hz))]
          simp
      rw [hrest, e1, e2, decide_eq_true rfl, hx]
      simp
      omega
    · have hne : p.1 ≠ x := fun e => nm_irrefl x (by have := h1 _ hm; rwa [e] at this)
      rw [decide_eq_false hne, ih h2 hm]
      simp
      omega
theorem doneU_le {b : Int} {left : Lit → Bool} {fs : List Fi} {l : Dir} (hd : ∀ f ∈ fs, f.dur ≤ f.data.length ∧ f.data.length ≤ 4194304) : doneU b left fs l ≤ l.length * 4194304 := by
  induction l with
  | nil => exact Nat.zero_le _
  | cons p r ih =>
    show (if left (.string p.1) = true then 0 else (cutF b (fs.getD p.2 noFi)).data.length) + doneU b left fs r ≤ _
    have h1 : (cutF b (fs.getD p.2 noFi)).data.length ≤ 4194304 := by
      have h2 : (fs.getD p.2 noFi).dur ≤ (fs.getD p.2 noFi).data.length ∧ (fs.getD p.2 noFi).data.length ≤ 4194304 := by
        by_cases hp : p.2 < fs.length
        · exact hd _ (getD_mem hp)
        · have : fs.getD p.2 noFi = noFi := by simp [List.getD, List.getElem?_eq_none (Nat.le_of_not_lt hp)]
          rw [this]; exact ⟨Nat.le_refl _, Nat.zero_le _⟩
      have h3 := cutF_len (b := b) h2.1
      rw [h3.2]; omega
    rw [List.length_cons]
    split <;> omega
theorem crash_fin {B : Nat} {X : FsX} {w wF : World} {bf nb : Nat} {s s1 : Fs} {ca cb : Int} {d : Dir} {dvF : Nat → Value} (h : FsAt B X w bf s1) (ok : FsOk s) (hd : doAll s.sure (s.acts.take (clampI ca s.acts.length)) = d) (hs1 : s1.sure = d) (hst : s1.steps = s.steps)
    (hnb : w.heap.size ≤ nb ∧ nb < wF.heap.size) (hB : B ≤ nb) (hm : MapAt wF nb X.nd X.Dd X.fb d)
    (hb : wF.heap[bf]? = some (.cells #[.int .i64 (s.room : Int), .int .i64 (usedD (s.files.map (cutF cb)) d : Int), .map (some nb), .map (some X.bd), X.va, .int .i64 (stV s), .int .i64 (-1)] 70 (0, 0)))
    (hva : s1.acts = [])
    (hF : Far (fun q => q = bf ∨ w.heap.size ≤ q ∨ ∃ i, X.T q = .file i) w wF)
    (hfl : ∀ p ∈ d, wF.heap[X.fb p.2]? = some (.cells #[dvF p.2, .int .i64 ((cutF cb (s.files.getD p.2 noFi)).dur : Int)] 84 (0, 0)) ∧ RowM wF B (dvF p.2) (bv (cutF cb (s.files.getD p.2 noFi)).data) ∧ ∀ k, (dvF p.2).ownBlock = some k → (X.dv p.2).ownBlock = some k) :
    ∃ X', FsAt B X' wF bf (crashS s ca cb) ∧ ∀ k, X'.T k ≠ .no → X.T k ≠ .no ∨ w.heap.size ≤ k := by
  have hlt : ∀ k, X.T k ≠ .no → k < w.heap.size := fun k ht => (h.dom k ht).2
  have hT : ∀ k, k < w.heap.size → (if k = nb then Role.now else X.T k) = X.T k := fun k hk => if_neg (by omega)
  have key : ∀ k r, X.T k = r → r ≠ .no → (if k = nb then Role.now else X.T k) = r := fun k r e h1 => by rw [hT k (hlt k (by rw [e]; exact h1)), e]
  have hok := ok.dirs _ (clampI_le ca s.acts.length)
  rw [hd] at hok
  have hcs : (crashS s ca cb).now = d := hd
  have hcs2 : (crashS s ca cb).sure = d := hd
  have hu : used (crashS s ca cb) = usedD (s.files.map (cutF cb)) d := by
    show usedD (s.files.map (cutF cb)) (crashS s ca cb).now = _
    rw [hcs]
  have hK : ∀ k r, X.T k = r → r ≠ .no → r ≠ .fs → (∀ i, r ≠ .file i) → wF.heap[k]? = w.heap[k]? := fun k r e h1 h2 h3 => hF.block k (hlt k (by rw [e]; exact h1)) (by
    rintro (e2 | e2 | ⟨i, e2⟩)
    · rw [e2, h.tf] at e; exact h2 e.symm
    · have := hlt k (by rw [e]; exact h1); omega
    · exact h3 i (e.symm.trans e2))
  refine ⟨{ X with T := fun k => if k = nb then .now else X.T k, bn := nb, nn := X.nd, Dn := X.Dd, dv := dvF }, ⟨fun k ht => ?_, key _ _ h.tf (fun c => by cases c), if_pos rfl, key _ _ h.td (fun c => by cases c), fun k e => key _ _ (h.tr k e) (fun c => by cases c), ?_, ?_, ?_, ?_, ?_, ?_, fun i hi => ?_⟩, fun k ht => ?_⟩
  · by_cases e : k = nb
    · rw [e]; exact ⟨hB, hnb.2⟩
    · have ht2 : X.T k ≠ .no := fun c => ht (by show (if k = nb then Role.now else X.T k) = _; rw [if_neg e]; exact c)
      exact ⟨(h.dom k ht2).1, Nat.lt_of_lt_of_le (h.dom k ht2).2 hF.size⟩
  · unfold fsRow
    rw [hu]; exact hb
  · rw [hcs]; exact hm
  · rw [hcs2, ← hs1]
    exact h.md.kept (hK _ _ h.td (fun c => by cases c) (fun c => by cases c) (fun i c => by cases c))
  · have := h.hd; show X.nd ≤ s.steps; rw [← hst]; omega
  · have := h.hd; show X.nd + 0 ≤ s.steps; rw [← hst]; omega
  · have h1 := h.row
    rw [hva] at h1
    exact row_kept h1 (fun k e => hK k _ (h.tr k e) (fun c => by cases c) (fun c => by cases c) (fun i c => by cases c))
  · have hp : ∃ p ∈ d, p.2 = i := by
      rcases hi with ⟨p, hp, e⟩ | ⟨a, ha, _⟩
      · exact ⟨p, by rw [← hcs2]; exact hp, e⟩
      · cases ha
    obtain ⟨p, hp, rfl⟩ := hp
    have hf := h.fil p.2 (Or.inl ⟨p, by rw [hs1]; exact hp, rfl⟩)
    obtain ⟨a1, a2, a3⟩ := hfl p hp
    have e : (crashS s ca cb).files.getD p.2 noFi = cutF cb (s.files.getD p.2 noFi) := by
      have h1 := hok.lt p hp
      show (s.files.map (cutF cb)).getD p.2 noFi = _
      simp [List.getD, h1]
    refine ⟨key _ _ hf.tb (fun c => by cases c), fun k ek => key _ _ (hf.tv k (a3 k ek)) (fun c => by cases c), ?_, ?_⟩
    · rw [e]; exact a1
    · rw [e]; exact a2
  · by_cases e : k = nb
    · right; omega
    · left
      intro c
      exact ht (by show (if k = nb then Role.now else X.T k) = _; rw [if_neg e]; exact c)
end Go.Proofs.YtgknihcpmpfocaaDoor
namespace Go.Proofs.YtgknihcpmpfocaaDoor
open Go.RowKit Go.Maps
attribute [local go_sem ↓] Go.wp_at_zero Go.wp_at_succ
def CrashP (B : Nat) (X : FsX) (w : World) (bf : Nat) (s' : Fs) (e : Ending) (w' : World) : Prop := e = .returned (.tuple #[]) ∧ ∃ X', FsAt B X' w' bf s' ∧ FsUp B X w X' w'
set_option maxRecDepth 100000 in
set_option maxHeartbeats 4000000 in
theorem crash_any {B : Nat} {X : FsX} {w : World} {bf : Nat} {s : Fs} (h : FsAt B X w bf s) (ok : FsOk s) (hs : s.steps ≤ 16777214) (ca cb : Int) :
    Calls Tryd.prog 23 #[.pointer (some ⟨bf, 0, none⟩), .int .i64 ca, .int .i64 cb] w (CrashP B X w bf (crashS s ca cb)) := by
  have H := Lib.hid h
  have OK := Lib.hid ok
  obtain ⟨_, _, _, _, c4, _, _⟩ := h.cells
  obtain ⟨sa, sc, hva⟩ : ∃ sa sc, X.va = .slice sa s.acts.length sc := by
    rcases h.row.2 with ⟨e1, e2⟩ | ⟨g, cap, cur, e1, _⟩
    · exact ⟨none, 0, by rw [e1]; congr 1; exact e2.symm⟩
    · exact ⟨_, _, e1⟩
  rw [hva] at c4
  have HS := Lib.hid (settle_any (n := clampI ca s.acts.length) h (fun k hk => (ok.dirs k hk).rise) ok.lens (by omega) (clampI_le _ _))
  clear h ok hva
  obtain ⟨al, hal⟩ : ∃ n, s.acts.length = n := ⟨_, rfl⟩
  have HAL := Lib.hid hal
  rw [hal] at c4 HS
  clear hal
  go_enter Tryd.func23, Tryd.ntmps23
  go_wp2_with fail
  refine (within_any ca al w).mono ?_
  rintro e w' ⟨rfl, rfl⟩
  go_wp2_with fail
  refine HS.out.mono ?_
  rintro e w1 ⟨rfl, X1, h1, f1, t1, e1, e2⟩
  obtain ⟨d, hd⟩ : ∃ d, doAll s.sure (s.acts.take (clampI ca s.acts.length)) = d := ⟨_, rfl⟩
  have HD := Lib.hid hd
  have HDO : Hid (DirOk s.files.length d) := Lib.hid (by rw [← hd]; exact OK.out.dirs _ (clampI_le _ _))
  have H1 : Hid (FsAt B X1 w1 bf (flushD s (clampI ca al))) := Lib.hid h1
  have F1 := Lib.hid f1
  have T1 := Lib.hid t1
  have E1 := Lib.hid e1
  have hsd : (flushD s (clampI ca al)).sure = d := by rw [← HAL.out]; exact hd
  have M1 : Hid (MapAt w1 X1.bd X1.nd X1.Dd X1.fb d) := Lib.hid (by rw [← hsd]; exact h1.md)
  have HSD := Lib.hid hsd
  clear h1 f1 t1 e1 e2 hd hsd c4 HS
  obtain ⟨_, _, _, d3, _, _, _⟩ := H1.out.cells
  have fr2 := H1.out.free 2
  have HCL := Lib.hid (AnyW.maps_Clone_owns Tryd.cloneM45 9 ptrR X1.bd X1.nd X1.Dd w1 M1.out.own)
  go_wp2_with fail
  refine HCL.out.mono ?_
  rintro e w2 ⟨rfl, own2, _, b2⟩
  have B2 := Lib.hid b2
  have M2 : Hid (MapAt w2 w1.heap.size X1.nd X1.Dd X1.fb d) := Lib.hid ⟨own2, M1.out.tidy, M1.out.at_⟩
  have H2 := Lib.hid (H1.out.below b2)
  have NB := Lib.hid own2.lt
  clear own2 b2 HCL d3 fr2
  obtain ⟨nb, hnb⟩ : ∃ n, w1.heap.size = n := ⟨_, rfl⟩
  have HNB := Lib.hid hnb
  rw [hnb] at B2 M2 NB ⊢
  clear hnb
  have q2 := H2.out.cells.2.2.1
  have fr1 := H2.out.free 1
  have fr2 := H2.out.free 2
  have q1 := H2.out.cells.2.1
  go_upto_region 3 with fail
  clear q2 fr1 fr2 q1
  have hbn : bf ≠ nb := fun e => by have := H1.out.bfB.2; have := HNB.out; omega
  have hs3 : ∀ q, q ≠ bf → ((w2.setCell ⟨bf, 2, none⟩ (.map (some nb))).setCell ⟨bf, 1, none⟩ (.int .i64 0)).heap[q]? = w2.heap[q]? := fun q hq => by
    rw [Below.heap_setCell _ _ _ q hq, Below.heap_setCell _ _ _ q hq]
  have hb3 : ((w2.setCell ⟨bf, 2, none⟩ (.map (some nb))).setCell ⟨bf, 1, none⟩ (.int .i64 0)).heap[bf]? = some (.cells #[.int .i64 (s.room : Int), .int .i64 0, .map (some nb), .map (some X1.bd), X1.va, .int .i64 (stV s), .int .i64 s.more] 70 (0, 0)) := by
    rw [cells_set (cells_set H2.out.blk _) _]; rfl
  have F3 := Lib.hid ((Far.alone (P := fun q => q = bf) (Alone.set bf 2 w2 (.map (some nb))) rfl).trans (Far.alone (P := fun q => q = bf) (Alone.set bf 1 _ (.int .i64 0)) rfl))
  have HB3 := Lib.hid hb3
  have HS3 := Lib.hid hs3
  have hsz3 : ((w2.setCell ⟨bf, 2, none⟩ (.map (some nb))).setCell ⟨bf, 1, none⟩ (.int .i64 0)).heap.size = w2.heap.size := by simp
  clear hb3 hs3
  generalize (w2.setCell ⟨bf, 2, none⟩ (.map (some nb))).setCell ⟨bf, 1, none⟩ (.int .i64 0) = w3 at *
  have M3 := Lib.hid (M2.out.kept (HS3.out nb (fun e => hbn e.symm)))
  have hbf3 : bf < w3.heap.size := by have := H2.out.bfB.2; omega
  have hnb3 : nb < w3.heap.size := by have := NB.out; omega
  have q2 : w3.cell? ⟨bf, 2, none⟩ = some (.map (some nb)) := (cell_of_row _ _ _ _ _ _ HB3.out).trans rfl
  have HSZ3 := Lib.hid hsz3
  clear hsz3
  have hown3 := Lib.hid M3.out.own
  go_wp2_with (at_range; refine wpList_range_own _ rfl _ 67 rfl 9 82 keyLaw Tryd.underlying67 ptrR nb X1.nd X1.Dd rfl hown3.out ?_; intro w4 hrg4 hg4 hs4; have RG4 := Lib.hid hrg4; have G4 := Lib.hid hg4; have Z4 := Lib.hid hs4; clear hrg4 hg4 hs4; go_frame)
  obtain ⟨r, hr⟩ : ∃ n, w3.heap.size = n := ⟨_, rfl⟩
  have HRR := Lib.hid hr
  rw [hr] at RG4 ⊢
  rw [hr] at hbf3 hnb3
  clear hr q2
  go_loopw [7] (fun _ wr => ∃ (left : Lit → Bool) (cnt : Nat) (dvF : Nat → Value), Hid (wr.ranges Tryd.prog 9 ptrR nb r X1.nd X1.Dd left cnt) ∧
      Hid (wr.heap[bf]? = some (.cells #[.int .i64 (s.room : Int), .int .i64 (doneU cb left s.files d : Int), .map (some nb), .map (some X1.bd), X1.va, .int .i64 (stV s), .int .i64 s.more] 70 (0, 0))) ∧
      Hid (∀ p ∈ d, wr.heap[X1.fb p.2]? = some (.cells #[dvF p.2, .int .i64 ((stageF cb left s.files p).dur : Int)] 84 (0, 0)) ∧ RowM wr B (dvF p.2) (bv (stageF cb left s.files p).data) ∧ ∀ k, (dvF p.2).ownBlock = some k → (X1.dv p.2).ownBlock = some k) ∧
      Hid (Far (fun q => q = bf ∨ q = r ∨ ∃ i, X1.T q = .file i) w3 wr)) (fun _ wr => wr.rangeLeft nb r)
  case atStart =>
    refine ⟨_, _, X1.dv, RG4, Lib.hid ?_, Lib.hid (fun p hp => ?_), Lib.hid ⟨G4.out.os, G4.out.tape, G4.out.output, G4.out.size, fun k hk _ => G4.out.block k hk (fun c => by cases c)⟩⟩
    · rw [doneU_start (fun p hp => has_name M3.out HDO.out.rise hp), G4.out.block bf (by have := HRR.out; omega) (fun c => by cases c)]
      exact HB3.out
    · have hl : Live (flushD s (clampI ca al)) p.2 := Or.inl ⟨p, by rw [HSD.out]; exact hp, rfl⟩
      have hf := H2.out.fil p.2 hl
      have hst : stageF cb (Maps.has X1.Dd) s.files p = s.files.getD p.2 noFi := by unfold stageF; rw [if_pos (has_name M3.out HDO.out.rise hp)]
      have hk : ∀ q, X1.T q ≠ .fs → q < w2.heap.size → w4.heap[q]? = w2.heap[q]? := fun q h1 h2 => by
        rw [G4.out.block q (by have := HSZ3.out; omega) (fun c => by cases c)]
        exact HS3.out q (fun e => h1 (by rw [e]; exact H2.out.tf))
      have hd1 := H2.out.dom (X1.fb p.2) (by rw [hf.tb]; exact fun c => by cases c)
      rw [hst]
      refine ⟨(hk _ (by rw [hf.tb]; exact fun c => by cases c) hd1.2).trans hf.blk, hf.row.kept (by have := G4.out.size; have := HSZ3.out; omega) (fun k e => hk k (by rw [hf.tv k e]; exact fun c => by cases c) (H2.out.dom k (by rw [hf.tv k e]; exact fun c => by cases c)).2), fun k e => e⟩
  case round =>
    obtain ⟨left, cnt, dvF, hrg, hbr, hfl, hF⟩ := hrel
    go_wp2_with (at_next; refine wpList_next_ranges _ rfl _ rfl 9 keyLaw ptrR mkK mkV (fun key kl hk => by obtain ⟨x, e, _⟩ := keyOf_str_inv hk; exact ⟨x, e⟩) (fun v y hv => ptrR_inv hv) nb r X1.nd X1.Dd left cnt rfl hrg.out ?_ ?_)
    · intro _ hl0
      have HL0 := Lib.hid hl0
      clear hl0
      have c6 : wr.cell? ⟨bf, 6, none⟩ = some (.int .i64 s.more) := (cell_of_row _ _ _ _ _ _ hbr.out).trans rfl
      have fr6 : wr.frozen? ⟨bf, 6, none⟩ = false := frozen_box hbr.out 6
      go_wp2_with fail
      go_end0
      have hsF : ∀ q, q ≠ bf → (wr.setCell ⟨bf, 6, none⟩ (.int .i64 (-1))).heap[q]? = wr.heap[q]? := fun q hq => Below.heap_setCell _ _ _ q hq
      have hzw1 : w1.heap.size = nb := HNB.out
      have hz2 := B2.out.size
      have hz3 := HSZ3.out
      have hz4 := HRR.out
      have hzF := hF.out.size
      have hde := doneU_end (b := cb) HL0.out (fun p hp => HDO.out.lt p hp)
      have FF : Far (fun q => q = bf ∨ w1.heap.size ≤ q ∨ ∃ i, X1.T q = .file i) w1 (wr.setCell ⟨bf, 6, none⟩ (.int .i64 (-1))) := by
        have a1 : Far (fun q => q = bf ∨ w1.heap.size ≤ q ∨ ∃ i, X1.T q = .file i) w1 w2 := ⟨B2.out.os, B2.out.tape, B2.out.output, B2.out.size, fun k hk _ => B2.out.block k (by omega)⟩
        have a2 := F3.out.mono (P' := fun q => q = bf ∨ w1.heap.size ≤ q ∨ ∃ i, X1.T q = .file i) (fun k hk => Or.inl hk)
        have a3 := hF.out.mono (P' := fun q => q = bf ∨ w1.heap.size ≤ q ∨ ∃ i, X1.T q = .file i) (fun k hk => by
          rcases hk with e | e | e
          · exact Or.inl e
          · right; left; omega
          · exact Or.inr (Or.inr e))
        exact ((a1.trans a2).trans a3).trans (Far.alone (Alone.set bf 6 wr _) (Or.inl rfl))
      obtain ⟨X', q1, q2⟩ := crash_fin (wF := wr.setCell ⟨bf, 6, none⟩ (.int .i64 (-1))) (nb := nb) (ca := ca) (cb := cb) (dvF := dvF) H1.out OK.out HD.out HSD.out rfl ⟨by omega, by simp; omega⟩ (by have := H1.out.baseB; omega)
        ⟨by
          have h1 := hrg.out.owns
          obtain ⟨es, clock, hb, F, hs, hD⟩ := h1
          exact ⟨es, clock, (hsF nb (fun e => hbn e.symm)).trans hb, F, hs, hD⟩, M3.out.tidy, M3.out.at_⟩
        (by rw [cells_set hbr.out _, ← hde]; rfl) rfl FF
        (fun p hp => by
          obtain ⟨a1, a2, a3⟩ := hfl.out p hp
          have hst : stageF cb left s.files p = cutF cb (s.files.getD p.2 noFi) := by unfold stageF; rw [if_neg (by rw [HL0.out]; decide)]
          rw [hst] at a1 a2
          have hf := H1.out.fil p.2 (Or.inl ⟨p, by rw [HSD.out]; exact hp, rfl⟩)
          refine ⟨(hsF _ (fun e => by have := hf.tb; rw [e, H1.out.tf] at this; cases this)).trans a1, a2.kept (by simp) (fun k e => hsF k (fun e2 => by have h3 := hf.tv k (a3 k e); rw [e2, H1.out.tf] at h3; cases h3)), a3⟩)
      refine ⟨rfl, X', q1, ?_⟩
      have u1 : FsUp B X w X1 w1 := FsUp.far_of F1.out (fun k e => by
        rcases e with e | e
        · rw [e, H.out.tf]; exact fun c => by cases c
        · rw [e, H.out.td]; exact fun c => by cases c) (fun k hk => (H.out.dom k hk).1) H.out.baseB T1.out
      refine u1.trans ⟨FF.below (fun k e => ?_) H1.out.baseB, fun k hk ht => FF.block k hk (fun e => ?_), q2⟩
      · rcases e with e | e | ⟨i, e⟩
        · rw [e]; exact H1.out.bfB.1
        · have := H1.out.baseB; omega
        · exact (H1.out.dom k (by rw [e]; exact fun c => by cases c)).1
      · rcases e with e | e | ⟨i, e⟩
        · rw [e, H1.out.tf] at ht; cases ht
        · omega
        · rw [e] at ht; cases ht
    · intro x c kl y1 y2 w5 cnt5 hkx hlx hy hat hrg5 hlt5 hg5 hs5 hen
      obtain ⟨x', ex, rfl⟩ := keyOf_str_inv hkx
      obtain rfl : x = x' := by unfold mkK at ex; injection ex with ex; injection ex with ex; simpa using congrArg Array.toList ex
      obtain ⟨i, hmem, rfl⟩ := entry_of M3.out (y := (y1, y2)) hy hat
      have HME := Lib.hid hmem
      have HLX := Lib.hid hlx
      have HRG5 := Lib.hid hrg5
      have HLT5 := Lib.hid hlt5
      have hf := H1.out.fil i (Or.inl ⟨(x, i), by rw [HSD.out]; exact hmem, rfl⟩)
      have HTB := Lib.hid hf.tb
      have HTV := Lib.hid hf.tv
      obtain ⟨a1, a2, a3⟩ := hfl.out (x, i) hmem
      have hst : stageF cb left s.files (x, i) = s.files.getD i noFi := by unfold stageF; rw [if_pos hlx]
      rw [hst] at a1 a2
      have A3 := Lib.hid a3
      have hne : X1.fb i ≠ bf := fun e => by have := hf.tb; rw [e, H1.out.tf] at this; cases this
      have hfbl : X1.fb i < w1.heap.size := (H1.out.dom _ (by rw [hf.tb]; exact fun c => by cases c)).2
      have hzw1 : w1.heap.size = nb := HNB.out
      have hz2 := B2.out.size
      have hz3 := HSZ3.out
      have hz4 := HRR.out
      have hzF := hF.out.size
      have hk5 : ∀ q, q < wr.heap.size → q ≠ r → w5.heap[q]? = wr.heap[q]? := fun q h1 h2 => hg5.block q h1 (fun e => h2 (by injection e))
      have hbf5 : w5.heap[bf]? = _ := (hk5 bf (by omega) (by omega)).trans hbr.out
      have hfb5 : w5.heap[X1.fb i]? = some (.cells #[dvF i, .int .i64 ((s.files.getD i noFi).dur : Int)] 84 (0, 0)) := (hk5 _ (by omega) (by omega)).trans a1
      have hrw5 : RowM w5 B (dvF i) (bv (s.files.getD i noFi).data) := a2.kept hg5.size (fun k e => by
        have h3 := (H1.out.dom k (by rw [hf.tv k (a3 k e)]; exact fun c => by cases c)).2
        exact hk5 k (by omega) (by omega))
      have F5 : Hid (Far (fun q => q = bf ∨ q = r ∨ ∃ i, X1.T q = .file i) w3 w5) := Lib.hid (hF.out.trans ⟨hg5.os, hg5.tape, hg5.output, hg5.size, fun k hk hn => hk5 k hk (fun e => hn (Or.inr (Or.inl e)))⟩)
      have K5 := Lib.hid hk5
      have BF5 := Lib.hid hbf5
      have FB5 := Lib.hid hfb5
      have RW5 := Lib.hid hrw5
      obtain ⟨fa, fc, hdv⟩ := hrw5.shape
      rw [bv_len] at hdv
      have HDAT : Hid ((s.files.getD i noFi).dur ≤ (s.files.getD i noFi).data.length ∧ (s.files.getD i noFi).data.length ≤ 4194304) := Lib.hid (OK.out.dat _ (getD_mem (HDO.out.lt _ hmem)))
      obtain ⟨n0, hn0⟩ : ∃ n, (s.files.getD i noFi).dur = n := ⟨_, rfl⟩
      obtain ⟨m, hm0⟩ : ∃ n, (s.files.getD i noFi).data.length = n := ⟨_, rfl⟩
      have HN0 := Lib.hid hn0
      have HM0 := Lib.hid hm0
      rw [hm0] at hdv
      have HDV := Lib.hid hdv
      obtain ⟨hnm, hml⟩ : n0 ≤ m ∧ m ≤ 4194304 := by have := HDAT.out; rw [hn0, hm0] at this; exact this
      have hen2 : (Instr.entry (.pointer (some ⟨r, 0, none⟩))).run Tryd.prog w5 = .ok (.tuple #[.string ⟨x.toArray⟩, .pointer (some ⟨X1.fb i, 0, none⟩)]) w5 := hen
      clear hen hn0 hm0 hdv a1 a2 a3 hst hf hk5 hbf5 hfb5 hrw5 hg5 hrg5 hlt5 hlx hmem hy hat hkx ex hbr
      rw [show mkK x = .string ⟨x.toArray⟩ from rfl, show mkV (some (X1.fb i)) = .pointer (some ⟨X1.fb i, 0, none⟩) from rfl]
      go_upto_region 6 with fail
      obtain ⟨k0, hk0⟩ : ∃ k, m = n0 + k := ⟨m - n0, by omega⟩
      have HK0 := Lib.hid hk0
      have hcl := clampI_le cb k0
      have HWI := Lib.hid (within_any cb k0 w5.drew)
      obtain ⟨c0, hc0⟩ : ∃ c, clampI cb k0 = c := ⟨_, rfl⟩
      have HC0 := Lib.hid hc0
      rw [hc0] at HWI hcl
      obtain ⟨e0, he0⟩ : ∃ e, n0 + c0 = e := ⟨_, rfl⟩
      have HE0 := Lib.hid he0
      have he1 : e0 ≤ m := by omega
      have hw1 : IntKind.i64.wrap ((m : Int) - (n0 : Int)) = (k0 : Int) := by
        rw [show ((m : Int) - (n0 : Int)) = (k0 : Int) by omega]
        exact IntWalk.i64_in _ (by omega)
      have hw2 : IntKind.i64.wrap ((n0 : Int) + (c0 : Int)) = (e0 : Int) := by
        rw [show ((n0 : Int) + (c0 : Int)) = (e0 : Int) by omega]
        exact IntWalk.i64_in _ (by omega)
      clear hk0 hc0 he0
      have fb6 : w5.drew.heap[X1.fb i]? = _ := FB5.out
      have t0 : w5.drew.cell? ⟨X1.fb i, 0, none⟩ = some (dvF i) := (cell_of_row _ _ _ _ _ _ fb6).trans rfl
      have t1 : w5.drew.cell? ⟨X1.fb i, 1, none⟩ = some (.int .i64 ((s.files.getD i noFi).dur : Int)) := (cell_of_row _ _ _ _ _ _ fb6).trans rfl
      rw [HDV.out] at t0
      rw [HN0.out] at t1
      clear fb6
      go_still_tail 18, (by kernel_rfl)
      still_call (HWI.out.mono (fun _ _ h => ⟨h.1, h.2.symm⟩))
      repeat still_step
      refine wpStill_nil ?_
      change wpList _ _ _ _ _ w5.drew
      have E6 : Hid (∀ q : Nat, w5.drew.heap[q]? = w5.heap[q]?) := Lib.hid (fun _ => rfl)
      have F6 : Hid (Far (fun q => q = bf ∨ q = r ∨ ∃ i, X1.T q = .file i) w3 w5.drew) := Lib.hid (F5.out.trans (Far.drewN _ w5 1))
      have Z6 : Hid (w5.drew.heap.size = w5.heap.size) := Lib.hid rfl
      have RW6 : Hid (RowM w5.drew B (dvF i) (bv (s.files.getD i noFi).data)) := Lib.hid (RW5.out.kept (Nat.le_refl _) (fun _ _ => rfl))
      generalize w5.drew = w6 at *
      clear t0 t1 hw1 hw2 HWI
      have HNE := Lib.hid hne
      have HCUT := Lib.hid (fcut_any (B := B) (n := e0) (l := (s.files.getD i noFi).data) ((E6.out _).trans FB5.out) RW6.out (by rw [HM0.out]; exact he1) HDAT.out.2 (fun q e e2 => by
        have h3 := HTV.out q (A3.out q e)
        rw [e2, HTB.out] at h3; cases h3))
      go_wp2_with fail
      refine HCUT.out.mono ?_
      rintro e w7 ⟨rfl, v7, hb7, hr7, ho7, al7⟩
      have B7 := Lib.hid hb7
      have R7 := Lib.hid hr7
      have O7 := Lib.hid ho7
      have A7 := Lib.hid al7
      have hlen7 : ((s.files.getD i noFi).data.take e0).length = e0 := by rw [List.length_take, HM0.out]; omega
      obtain ⟨xa, xc, hv7⟩ := hr7.shape
      rw [bv_len, hlen7] at hv7
      have HV7 := Lib.hid hv7
      have HL7 := Lib.hid hlen7
      have Q7 := Lib.hid ((al7.block bf (by have := F6.out.size; omega) (fun e => hne e.symm)).trans ((E6.out bf).trans BF5.out))
      clear hb7 hr7 ho7 al7 HCUT hlen7 hv7
      go_upto_region 7 with fail
      obtain ⟨u, hu⟩ : ∃ u, doneU cb left s.files d = u := ⟨_, rfl⟩
      have HU := Lib.hid hu
      have hub : u ≤ 70368744177664 := by
        rw [← hu]
        refine Nat.le_trans (doneU_le (fun f hf => OK.out.dat f hf)) ?_
        have h1 : d.length ≤ s.steps := by rw [← HD.out]; exact (crashS_ok OK.out ca cb).nowLen
        have h2 : d.length * 4194304 ≤ 16777214 * 4194304 := Nat.mul_le_mul_right _ (Nat.le_trans h1 hs)
        omega
      have hw3 : IntKind.i64.wrap ((u : Int) + (e0 : Int)) = (u : Int) + (e0 : Int) := IntWalk.i64_in _ (by omega)
      have bf8 : w7.drew.heap[bf]? = _ := Q7.out
      have fb8 : w7.drew.heap[X1.fb i]? = _ := B7.out
      have t1 : w7.drew.cell? ⟨bf, 1, none⟩ = some (.int .i64 (doneU cb left s.files d : Int)) := (cell_of_row _ _ _ _ _ _ bf8).trans rfl
      have t0 : w7.drew.cell? ⟨X1.fb i, 0, none⟩ = some v7 := (cell_of_row _ _ _ _ _ _ fb8).trans rfl
      have tf : w7.drew.frozen? ⟨bf, 1, none⟩ = false := frozen_box bf8 1
      rw [HV7.out] at t0
      rw [hu] at t1
      clear hu bf8 fb8
      go_still_tail 12, (by kernel_rfl)
      change wpList _ _ _ _ _ w7.drew
      have E8 : Hid (∀ q : Nat, w7.drew.heap[q]? = w7.heap[q]?) := Lib.hid (fun _ => rfl)
      have A8 : Hid (Alone bf w7 w7.drew) := Lib.hid (Alone.drewN bf w7 1)
      generalize w7.drew = w8 at *
      go_wp2_with fail
      clear t0 t1 tf hw3
      have hset : ∀ q, q ≠ bf → (w8.setCell ⟨bf, 1, none⟩ (.int .i64 ((u : Int) + (e0 : Int)))).heap[q]? = w7.heap[q]? := fun q hq => (Below.heap_setCell _ _ _ q hq).trans (E8.out q)
      have hz7 := A7.out.size
      have hz8 := A8.out.size
      have hz6 := Z6.out
      have hz5 := HSZ3.out
      have hz56 := F5.out.size
      have hTnb : ∀ q, w1.heap.size ≤ q → q ≠ X1.fb i := fun q hq e => by omega
      have hall : ∀ q, q < w5.heap.size → q ≠ bf → q ≠ X1.fb i → (w8.setCell ⟨bf, 1, none⟩ (.int .i64 ((u : Int) + (e0 : Int)))).heap[q]? = w5.heap[q]? := fun q h1 h2 h3 => by
        rw [hset q h2, A7.out.block q (by omega) h3, E6.out q]
      have hdr : (cutF cb (s.files.getD i noFi)).dur = e0 ∧ (cutF cb (s.files.getD i noFi)).data = (s.files.getD i noFi).data.take e0 := by
        have h1 : (s.files.getD i noFi).data.length - (s.files.getD i noFi).dur = k0 := by rw [HM0.out, HN0.out]; have := HK0.out; omega
        unfold cutF
        rw [h1, HC0.out, HN0.out, HE0.out]
        exact ⟨rfl, rfl⟩
      have hxl : ∀ q ∈ d, q ≠ (x, i) → stageF cb (fun z => left z && !z.sameKey (.string x)) s.files q = stageF cb left s.files q := fun q hq hn => by
        have hne1 : q.1 ≠ x := fun e => hn (by
          have h1 := mem_fnd HDO.out.rise (show (x, i) ∈ d from HME.out)
          have h2 := mem_fnd HDO.out.rise (show (q.1, q.2) ∈ d from hq)
          rw [e, h1] at h2
          injection h2 with h2
          rw [← e, h2])
        show (if (left (.string q.1) && !(Lit.string q.1).sameKey (.string x)) = true then s.files.getD q.2 noFi else cutF cb (s.files.getD q.2 noFi)) = stageF cb left s.files q
        rw [sameKey_str, decide_eq_false hne1]
        simp [stageF]
      refine ⟨⟨fun z => left z && !z.sameKey (.string x), cnt5, fun j => if j = i then v7 else dvF j, ?_, ?_, ?_, ?_⟩, ?_⟩
      · exact Lib.hid (ranges_kept HRG5.out (hall nb (by omega) (fun e => hbn e.symm) (hTnb nb (by omega))) (hall r (by have := HRG5.out.lt; omega) (fun e => by omega) (hTnb r (by omega))))
      · refine Lib.hid ?_
        rw [cells_set ((E8.out bf).trans Q7.out) _, doneU_step HDO.out.rise HME.out HLX.out, HU.out, hdr.2, HL7.out]
        push_cast
        rfl
      · refine Lib.hid (fun q hq => ?_)
        by_cases e : q = (x, i)
        · subst e
          have hst2 : stageF cb (fun z => left z && !z.sameKey (.string x)) s.files (x, i) = cutF cb (s.files.getD i noFi) := by
            show (if (left (.string x) && !(Lit.string x).sameKey (.string x)) = true then s.files.getD i noFi else cutF cb (s.files.getD i noFi)) = cutF cb (s.files.getD i noFi)
            rw [sameKey_str, decide_eq_true rfl]
            simp
          rw [hst2, hdr.1, hdr.2]
          show (w8.setCell ⟨bf, 1, none⟩ (.int .i64 ((u : Int) + (e0 : Int)))).heap[X1.fb i]? = some (.cells #[if i = i then v7 else dvF i, .int .i64 (e0 : Int)] 84 (0, 0)) ∧ RowM (w8.setCell ⟨bf, 1, none⟩ (.int .i64 ((u : Int) + (e0 : Int)))) B (if i = i then v7 else dvF i) (bv ((s.files.getD i noFi).data.take e0)) ∧ ∀ k, (if i = i then v7 else dvF i).ownBlock = some k → (X1.dv i).ownBlock = some k
          rw [if_pos rfl]
          refine ⟨(hset _ HNE.out).trans B7.out, R7.out.kept (by simp; omega) (fun k e => hset k (fun e2 => ?_)), fun k e => A3.out k (O7.out k e)⟩
          have h3 := HTV.out k (A3.out k (O7.out k e))
          rw [e2, H1.out.tf] at h3; cases h3
        · have hqi : q.2 ≠ i := fun e2 => e (HDO.out.inj q hq (x, i) HME.out e2)
          rw [hxl q hq e]
          obtain ⟨b1, b2, b3⟩ := hfl.out q hq
          have hf := H1.out.fil q.2 (Or.inl ⟨q, by rw [HSD.out]; exact hq, rfl⟩)
          have hbq : X1.fb q.2 < w1.heap.size := (H1.out.dom _ (by rw [hf.tb]; exact fun c => by cases c)).2
          have hn1 : X1.fb q.2 ≠ bf := fun e2 => by have := hf.tb; rw [e2, H1.out.tf] at this; cases this
          have hn2 : X1.fb q.2 ≠ X1.fb i := fun e2 => by have := hf.tb; rw [e2, HTB.out] at this; injection this with this; exact hqi this.symm
          show (w8.setCell ⟨bf, 1, none⟩ (.int .i64 ((u : Int) + (e0 : Int)))).heap[X1.fb q.2]? = some (.cells #[if q.2 = i then v7 else dvF q.2, _] 84 (0, 0)) ∧ RowM (w8.setCell ⟨bf, 1, none⟩ (.int .i64 ((u : Int) + (e0 : Int)))) B (if q.2 = i then v7 else dvF q.2) _ ∧ ∀ k, (if q.2 = i then v7 else dvF q.2).ownBlock = some k → (X1.dv q.2).ownBlock = some k
          rw [if_neg hqi]
          refine ⟨(hall _ (by omega) hn1 hn2).trans ((K5.out _ (by omega) (by omega)).trans b1), b2.kept (by simp; omega) (fun k e2 => ?_), b3⟩
          have h3 := hf.tv k (b3 k e2)
          have h4 := (H1.out.dom k (by rw [h3]; exact fun c => by cases c)).2
          exact (hall k (by omega) (fun e3 => by rw [e3, H1.out.tf] at h3; cases h3) (fun e3 => by rw [e3, HTB.out] at h3; cases h3)).trans (K5.out k (by omega) (by omega))
      · refine Lib.hid (((F6.out.trans (Far.alone A7.out (Or.inr (Or.inr ⟨i, HTB.out⟩)))).trans (Far.alone A8.out (Or.inl rfl))).trans (Far.alone (Alone.set bf 1 w8 _) (Or.inl rfl)))
      · have h1 := (ranges_kept HRG5.out (hall nb (by omega) (fun e => hbn e.symm) (hTnb nb (by omega))) (hall r (by have := HRG5.out.lt; omega) (fun e => by omega) (hTnb r (by omega)))).left_eq
        have h2 := hrg.out.left_eq
        rw [h1, h2]
        exact HLT5.out
end Go.Proofs.YtgknihcpmpfocaaDoor
namespace Go.Proofs.YtgknihcpmpfocaaDoor
open Go.RowKit Go.Maps Go.Sort
theorem has_const {D : DataW Unit} {k : Lit} (h : Maps.has D k = true) : ∃ d, ∀ z, D.atKey k z = d := by
  cases D with
  | map es =>
    have h1 : es.any (fun p => p.1.sameKey k) = true := h
    rw [List.any_eq_true] at h1
    obtain ⟨p, hp, hs⟩ := h1
    cases hf : es.find? (fun p => p.1.sameKey k) with
    | some q => exact ⟨q.2, fun z => by simp [DataW.atKey, hf]⟩
    | none => exact absurd hs (by simpa using List.find?_eq_none.1 hf p hp)
  | _ => cases h
theorem name_has {w : World} {b n : Nat} {D : DataW Unit} {fb : Nat → Nat} {l : Dir} (h : MapAt w b n D fb l) (hr : Rise l) (x : Nm) : x ∈ l.map (·.1) ↔ Maps.has D (.string x) = true := by
  constructor
  · intro hx
    obtain ⟨p, hp, rfl⟩ := List.mem_map.1 hx
    exact has_name h hr hp
  · intro hh
    obtain ⟨d, hd⟩ := has_const hh
    cases hf : fnd l x with
    | some i => exact List.mem_map.2 ⟨(x, i), fnd_mem hf, rfl⟩
    | none =>
      exfalso
      have h1 := h.at_ x
      unfold fndB at h1
      rw [hf] at h1
      have h2 := (hd (.lit (.int .i64 0))).symm.trans (h1 _)
      have h3 := (hd (.lit (.int .i64 1))).symm.trans (h1 _)
      rw [h2] at h3
      simp at h3
theorem keys_perm {w : World} {b n : Nat} {D : DataW Unit} {fb : Nat → Nat} {l : Dir} (h : MapAt w b n D fb l) (hr : Rise l) : (l.map (·.1)).Perm (strKeys D) := by
  have hm := name_has h hr
  obtain ⟨es, rfl, hp, _⟩ := h.own.entries keyLaw
  obtain ⟨es2, e2, hk⟩ := h.own.keysOf
  have e3 : es = es2 := by injection e2
  subst e3
  refine perm_strKeys hp (fun p hp => ?_) ?_ hm
  · obtain ⟨key, hkey⟩ := hk p hp
    obtain ⟨x, _, e, _⟩ := Maps.keyOf_str Tryd.underlying9 hkey
    exact ⟨x, e⟩
  · show (l.map (·.1)).Pairwise _
    refine List.pairwise_map.2 (hr.imp (fun {p q} hlt (e : p.1 = q.1) => nm_irrefl q.1 (by rwa [e] at hlt)))
theorem sort_names {l : Dir} (hr : Rise l) {ss : List (List UInt8)} (h : ss.Perm (l.map (·.1))) : ss.mergeSort (fun x y => decide (x ≤ y)) = l.map (·.1) := by
  rw [mergeSort_of_perm h]
  refine List.mergeSort_of_pairwise ?_
  refine List.pairwise_map.2 (hr.imp (fun {p q} hlt => ?_))
  exact decide_eq_true (List.le_of_lt hlt)
def ListP (w : World) (l : List Nm) (e : Ending) (w' : World) : Prop := ∃ v, e = .returned v ∧ w'.ownsRow w.heap.size 9 1 v l.length (l.map fun x => .string ⟨x.toArray⟩) ∧ Below w.heap.size w w'
end Go.Proofs.YtgknihcpmpfocaaDoor
namespace Go.Proofs.YtgknihcpmpfocaaDoor
open Go.RowKit Go.Maps
/-- A file system made behind w0, with blocks beside it (F) that are none of its own. -/
structure FsG (w0 : World) (F : Nat → Prop) (w : World) (bf : Nat) (s : Fs) : Prop where
  ex : ∃ X, FsAt w0.heap.size X w bf s ∧ ∀ k, F k → X.T k = .no ∧ k < w.heap.size
  below : Below w0.heap.size w0 w
  ok : FsOk s
def GP (w0 : World) (F : Nat → Prop) (w : World) (bf : Nat) (v : Value) (s' : Fs) (e : Ending) (w' : World) : Prop :=
  e = .returned v ∧ FsG w0 F w' bf s' ∧ w.heap.size ≤ w'.heap.size ∧ ∀ k, F k → w'.heap[k]? = w.heap[k]?
theorem FsG.up {w0 w w' : World} {F : Nat → Prop} {bf : Nat} {s' : Fs} {X X' : FsX} (hb : Below w0.heap.size w0 w) (hF : ∀ k, F k → X.T k = .no ∧ k < w.heap.size) (ok : FsOk s') (h : FsAt w0.heap.size X' w' bf s') (hu : FsUp w0.heap.size X w X' w') :
    FsG w0 F w' bf s' ∧ w.heap.size ≤ w'.heap.size ∧ ∀ k, F k → w'.heap[k]? = w.heap[k]? := by
  refine ⟨⟨⟨X', h, fun k hk => ⟨?_, Nat.lt_of_lt_of_le (hF k hk).2 hu.size⟩⟩, hb.trans hu.below, ok⟩, hu.size, fun k hk => hu.far k (hF k hk).2 (hF k hk).1⟩
  cases e : X'.T k with
  | no => rfl
  | _ =>
    rcases hu.dom k (by rw [e]; exact fun c => by cases c) with h1 | h1
    · exact absurd (hF k hk).1 h1
    · have := (hF k hk).2; omega
theorem FsG.beside {w0 w w' : World} {F : Nat → Prop} {bf : Nat} {s : Fs} (g : FsG w0 F w bf s) (hb : Below w.heap.size w w') : FsG w0 F w' bf s := by
  obtain ⟨X, h, hF⟩ := g.ex
  exact ⟨⟨X, h.below hb, fun k hk => ⟨(hF k hk).1, Nat.lt_of_lt_of_le (hF k hk).2 hb.size⟩⟩, g.below.trans (hb.mono g.below.size), g.ok⟩
/-- What is new lies beside the file system. -/
theorem FsG.more {w0 w w' : World} {F F' : Nat → Prop} {bf : Nat} {s : Fs} (g : FsG w0 F w bf s) (hb : Below w.heap.size w w') (hF' : ∀ k, F' k → F k ∨ (w.heap.size ≤ k ∧ k < w'.heap.size)) : FsG w0 F' w' bf s := by
  obtain ⟨X, h, hF⟩ := g.ex
  refine ⟨⟨X, h.below hb, fun k hk => ?_⟩, g.below.trans (hb.mono g.below.size), g.ok⟩
  rcases hF' k hk with h1 | h1
  · exact ⟨(hF k h1).1, Nat.lt_of_lt_of_le (hF k h1).2 hb.size⟩
  · refine ⟨?_, h1.2⟩
    cases e : X.T k with
    | no => rfl
    | _ => exact absurd (h.dom k (by rw [e]; exact fun c => by cases c)).2 (by omega)
/-- A block beside the file system is written. -/
theorem FsG.write {w0 w w' : World} {F : Nat → Prop} {bf : Nat} {s : Fs} (g : FsG w0 F w bf s) {b : Nat} (hb : F b) (hB : w0.heap.size ≤ b) (ha : Alone b w w') : FsG w0 F w' bf s := by
  obtain ⟨X, h, hF⟩ := g.ex
  refine ⟨⟨X, h.kept (fun k ht => ha.block k (h.dom k ht).2 (fun e => ht (by rw [e]; exact (hF b hb).1))) ha.size, fun k hk => ⟨(hF k hk).1, Nat.lt_of_lt_of_le (hF k hk).2 ha.size⟩⟩, g.below.trans (ha.below hB g.below.size), g.ok⟩
theorem FsG.bfne {w0 w : World} {F : Nat → Prop} {bf : Nat} {s : Fs} (g : FsG w0 F w bf s) : ¬ F bf := fun h => by
  obtain ⟨X, h1, hF⟩ := g.ex
  have := (hF bf h).1
  rw [h1.tf] at this; cases this
theorem g_create {w0 w : World} {F : Nat → Prop} {bf : Nat} {s : Fs} (g : FsG w0 F w bf s) (hs : s.steps ≤ 16777214) (hE : PEnv w0) (x : Nm) (hx : x.length ≤ 4194304) :
    Calls Tryd.prog 30 #[.pointer (some ⟨bf, 0, none⟩), .string ⟨x.toArray⟩] w (GP w0 F w bf (.int .i64 (createS s x).2) (createS s x).1) := by
  obtain ⟨X, h, hF⟩ := g.ex
  have hE2 := hE.on g.below
  refine (create_any h g.ok hs hE2 x hx).mono ?_
  rintro e w' ⟨he, X', h', hu⟩
  exact ⟨he, FsG.up g.below hF (createS_ok g.ok x) h' hu⟩
theorem g_sync {w0 w : World} {F : Nat → Prop} {bf : Nat} {s : Fs} (g : FsG w0 F w bf s) (hs : s.steps ≤ 16777214) (x : Nm) (hx : x.length ≤ 4194304) :
    Calls Tryd.prog 43 #[.pointer (some ⟨bf, 0, none⟩), .string ⟨x.toArray⟩] w (GP w0 F w bf (.int .i64 (syncS s x).2) (syncS s x).1) := by
  obtain ⟨X, h, hF⟩ := g.ex
  refine (sync_any h g.ok hs x hx).mono ?_
  rintro e w' ⟨he, X', h', hu⟩
  exact ⟨he, FsG.up g.below hF (syncS_ok g.ok x) h' hu⟩
theorem g_cut {w0 w : World} {F : Nat → Prop} {bf : Nat} {s : Fs} (g : FsG w0 F w bf s) (hs : s.steps ≤ 16777214) (x : Nm) (hx : x.length ≤ 4194304) (n : Int) :
    Calls Tryd.prog 37 #[.pointer (some ⟨bf, 0, none⟩), .string ⟨x.toArray⟩, .int .i64 n] w (GP w0 F w bf (.int .i64 (cutS s x n).2) (cutS s x n).1) := by
  obtain ⟨X, h, hF⟩ := g.ex
  refine (cut_any h g.ok hs x hx n).mono ?_
  rintro e w' ⟨he, X', h', hu⟩
  exact ⟨he, FsG.up g.below hF (cutS_ok g.ok x n) h' hu⟩
theorem g_append {w0 w : World} {F : Nat → Prop} {bf : Nat} {s : Fs} (g : FsG w0 F w bf s) (hs : s.steps ≤ 16777214) (x : Nm) (hx : x.length ≤ 4194304) (S : Nat → Prop) (vb : Value) (l : List UInt8) (hb : BytesC S w vb l) (hS : ∀ k, S k → k < w0.heap.size ∨ F k) (hlen : l.length ≤ 1073741824) :
    Calls Tryd.prog 34 #[.pointer (some ⟨bf, 0, none⟩), .string ⟨x.toArray⟩, vb] w (GP w0 F w bf (.int .i64 (appendS s x l).2) (appendS s x l).1) := by
  obtain ⟨X, h, hF⟩ := g.ex
  refine (append_any h g.ok hs x hx S vb l hb (fun k hk => by
      rcases hS k hk with h1 | h1
      · refine ⟨Nat.lt_of_lt_of_le h1 g.below.size, ?_⟩
        cases e : X.T k with
        | no => rfl
        | _ => exact absurd (h.dom k (by rw [e]; exact fun c => by cases c)).1 (by omega)
      · exact ⟨(hF k h1).2, (hF k h1).1⟩) hlen).mono ?_
  rintro e w' ⟨he, X', h', hu⟩
  exact ⟨he, FsG.up g.below hF (appendS_ok g.ok x l) h' hu⟩
theorem g_flush {w0 w : World} {F : Nat → Prop} {bf : Nat} {s : Fs} (g : FsG w0 F w bf s) (hs : s.steps ≤ 16777214) :
    Calls Tryd.prog 21 #[.pointer (some ⟨bf, 0, none⟩)] w (GP w0 F w bf (.int .i64 (flushS s).2) (flushS s).1) := by
  obtain ⟨X, h, hF⟩ := g.ex
  refine (flush_any h g.ok hs).mono ?_
  rintro e w' ⟨he, X', h', hu⟩
  exact ⟨he, FsG.up g.below hF (flushS_ok g.ok) h' hu⟩
theorem g_crash {w0 w : World} {F : Nat → Prop} {bf : Nat} {s : Fs} (g : FsG w0 F w bf s) (hs : s.steps ≤ 16777214) (ca cb : Int) :
    Calls Tryd.prog 23 #[.pointer (some ⟨bf, 0, none⟩), .int .i64 ca, .int .i64 cb] w (GP w0 F w bf (.tuple #[]) (crashS s ca cb)) := by
  obtain ⟨X, h, hF⟩ := g.ex
  refine (crash_any h g.ok hs ca cb).mono ?_
  rintro e w' ⟨he, X', h', hu⟩
  exact ⟨he, FsG.up g.below hF (crashS_ok g.ok ca cb) h' hu⟩
theorem g_read {w0 w : World} {F : Nat → Prop} {bf : Nat} {s : Fs} (g : FsG w0 F w bf s) (x : Nm) (hx : x.length ≤ 4194304) :
    Calls Tryd.prog 19 #[.pointer (some ⟨bf, 0, none⟩), .string ⟨x.toArray⟩] w (ReadP w (readS s x).1 (readS s x).2) := by
  obtain ⟨X, h, hF⟩ := g.ex
  exact read_any h g.ok x hx
theorem g_used {w0 w : World} {F : Nat → Prop} {bf : Nat} {s : Fs} (g : FsG w0 F w bf s) : Calls Tryd.prog 17 #[.pointer (some ⟨bf, 0, none⟩)] w fun e w' => e = .returned (.int .i64 (used s : Int)) ∧ w = w' := by
  obtain ⟨X, h, hF⟩ := g.ex
  exact used_any h
theorem g_left {w0 w : World} {F : Nat → Prop} {bf : Nat} {s : Fs} (g : FsG w0 F w bf s) (hs : s.steps ≤ 16777214) : Calls Tryd.prog 52 #[.pointer (some ⟨bf, 0, none⟩)] w fun e w' => ∃ n, e = .returned (.int .i64 ((s.room : Int) - (used s : Int))) ∧ w' = w.drewN n := by
  obtain ⟨X, h, hF⟩ := g.ex
  exact left_any h g.ok (by omega)
def NewG (w0 w : World) (n : Nat) (e : Ending) (w' : World) : Prop := ∃ bf, e = .returned (.tuple #[.pointer (some ⟨bf, 0, none⟩), .int .i64 0]) ∧ FsG w0 (fun k => w0.heap.size ≤ k ∧ k < w.heap.size) w' bf (newS n) ∧ Below w.heap.size w w'
theorem g_new {w0 w : World} (hb : Below w0.heap.size w0 w) (n : Nat) (hn : n ≤ 4194304) : Calls Tryd.prog 9 #[.int .i64 (n : Int)] w (NewG w0 w n) := by
  refine (new_any w0.heap.size n w hn hb.size).mono ?_
  rintro e w' ⟨X, bf, he, h, hb', hT⟩
  refine ⟨bf, he, ⟨⟨X, h, fun k hk => ⟨?_, Nat.lt_of_lt_of_le hk.2 hb'.size⟩⟩, hb.trans (hb'.mono hb.size), newS_ok hn⟩, hb'⟩
  cases e2 : X.T k with
  | no => rfl
  | _ => exact absurd (hT k (by rw [e2]; exact fun c => by cases c)) (by omega)
theorem bytes_lit (w : World) (l : List UInt8) (fr : Nat × Nat) (hl : l.length ≤ maxLen) : BytesC (fun k => w.heap.size ≤ k ∧ k < w.heap.size + 1) (w.alloc (.cells (bv l).toArray 5 fr)) (.slice (some ⟨w.heap.size, 0, none⟩) l.length l.length) l := by
  refine Or.inr ⟨⟨w.heap.size, 0, none⟩, l.length, rfl, Nat.le_refl _, hl, Or.inr ⟨Nat.le_refl _, Nat.lt_succ_self _⟩, fun j u hj => ?_⟩
  rw [add_pos, Nat.zero_add, World.cell?_alloc_mark]
  simpa using hj
def aw1 : Fs := (createS (newS 100) [97]).1
def aw2 : Fs := (appendS aw1 [97] [120, 121]).1
def aw3 : Fs := (syncS aw2 [97]).1
def aw4 : Fs := (flushS aw3).1
def aw5 : Fs := (renameS aw4 [97] [98]).1
def aw6 : Fs := (appendS aw5 [98] [122]).1
def aw7 : Fs := crashS aw6 0 0
theorem aw_codes : (createS (newS 100) [97]).2 = 0 ∧ (appendS aw1 [97] [120, 121]).2 = 0 ∧ (syncS aw2 [97]).2 = 0 ∧ (flushS aw3).2 = 0 ∧ (renameS aw4 [97] [98]).2 = 0 ∧ (appendS aw5 [98] [122]).2 = 0 := by decide +kernel
theorem aw_ends : readS aw7 [97] = ([120, 121], 0) ∧ (readS aw7 [98]) = ([], 4) ∧ aw7.room = 100 ∧ used aw7 = 2 ∧ aw7.now.length = 1 ∧ stV aw7 = 6 := by decide +kernel
theorem aw_steps : aw1.steps ≤ 16777214 ∧ aw2.steps ≤ 16777214 ∧ aw3.steps ≤ 16777214 ∧ aw4.steps ≤ 16777214 ∧ aw5.steps ≤ 16777214 ∧ aw6.steps ≤ 16777214 ∧ aw7.steps ≤ 16777214 := by decide +kernel
end Go.Proofs.YtgknihcpmpfocaaDoor
