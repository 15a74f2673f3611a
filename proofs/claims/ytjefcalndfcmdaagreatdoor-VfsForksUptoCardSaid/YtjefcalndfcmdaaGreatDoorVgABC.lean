/- What the document's reference lays: names as rows of two cells; a name found. The reference's names without one. The reference's names behind a change: put in order (mathematics). -/
import Derived.Test.YtjefcalndfcmdaaGreatDoorVfD
import Derived.Test.YtjefcalndfcmdaaGreatDoorRecs
import Derived.Test.YtjefcalndfcmdaaGreatDoorDraw
import Derived.Deep.DrawnRows
namespace Go.Proofs.YtjefcalndfcmdaaGreatDoor
open Go.RowKit Go.Maps
attribute [local go_sem ↓] Go.wp_at_zero Go.wp_at_succ
def nmV : Dir → List Value
  | [] => []
  | p :: r => .string ⟨p.1.toArray⟩ :: .int .i64 (p.2 : Int) :: nmV r
theorem nmV_len (l : Dir) : (nmV l).length = l.length * 2 := by
  induction l with
  | nil => rfl
  | cons p r ih => show (nmV r).length + 1 + 1 = (r.length + 1) * 2; omega
theorem nmV_one (l : Dir) : ∀ u ∈ nmV l, u.oneCell' = true := by
  induction l with
  | nil => intro u hu; cases hu
  | cons p r ih =>
    intro u hu
    rcases List.mem_cons.1 hu with rfl | hu
    · rfl
    rcases List.mem_cons.1 hu with rfl | hu
    · rfl
    exact ih u hu
theorem nmV_at {l : Dir} {k : Nat} (h : k < l.length) : (nmV l)[k * 2]? = some (.string ⟨(l.getD k ([], 0)).1.toArray⟩) ∧ (nmV l)[k * 2 + 1]? = some (.int .i64 ((l.getD k ([], 0)).2 : Int)) := by
  induction l generalizing k with
  | nil => cases h
  | cons p r ih =>
    cases k with
    | zero => exact ⟨rfl, rfl⟩
    | succ k =>
      have h1 := ih (k := k) (by simpa using h)
      rw [show (k + 1) * 2 = k * 2 + 1 + 1 by omega]
      exact h1
def NmC (S : Nat → Prop) (w : World) (v : Value) (l : Dir) : Prop := CellsC S w v l.length 2 (nmV l)
theorem NmC.kept {S S' : Nat → Prop} {w w' : World} {v : Value} {l : Dir} (h : NmC S w v l) (hk : ∀ k, S k → S' k ∧ w'.heap[k]? = w.heap[k]?) : NmC S' w' v l := CellsC.kept h hk
def fndI (l : Dir) (x : Nm) : Int := match fnd l x with
  | none => -1
  | some i => (i : Int)
theorem fndI_cons (p : Nm × Nat) (r : Dir) (x : Nm) : fndI (p :: r) x = if p.1 = x then (p.2 : Int) else fndI r x := by
  unfold fndI
  show (match (if p.1 = x then some p.2 else fnd r x) with | none => (-1 : Int) | some i => (i : Int)) = _
  by_cases h : p.1 = x
  · rw [if_pos h, if_pos h]
  · rw [if_neg h, if_neg h]
set_option maxRecDepth 100000 in
theorem rfind_any (S : Nat → Prop) (v : Value) (l : Dir) (x : Nm) (w : World) (hv : NmC S w v l) (hl : l.length ≤ 4194304) :
    Calls Tryz.prog 48 #[v, .string ⟨x.toArray⟩] w fun e w' => e = .returned (.int .i64 (fndI l x)) ∧ w' = w := by
  obtain ⟨la, lc, rfl⟩ := CellsC.shape hv
  obtain ⟨R, hR⟩ : ∃ R, fndI l x = R := ⟨_, rfl⟩
  have HR : Hid (fndI (l.drop 0) x = R) := Lib.hid hR
  rw [hR]
  have HV := Lib.hid hv
  clear hv hR
  go_enter Tryz.func48, Tryz.ntmps48
  go_wp2_with fail
  go_loopw [5] (fun i wr => ∃ k : Nat, k ≤ l.length ∧ i = .int .i64 (k : Int) ∧ Hid (fndI (l.drop k) x = R) ∧ wr = w) (fun i _ => l.length - (intOf i).toNat)
  case atStart => exact ⟨0, Nat.zero_le _, rfl, HR, rfl⟩
  case round =>
    obtain ⟨k, hk, rfl, hE, rfl⟩ := hrel
    by_cases hlt : k < l.length
    · obtain ⟨g1, o1, rfl, _, _, _, hat⟩ := CellsC.at HV.out (by omega)
      have hc := nmV_at hlt
      have c0 : wr.cell? ⟨g1, o1 + k * 2, none⟩ = some (.string ⟨(l.getD k ([], 0)).1.toArray⟩) := hat _ _ hc.1
      have c1 : wr.cell? ⟨g1, o1 + k * 2 + 1, none⟩ = some (.int .i64 ((l.getD k ([], 0)).2 : Int)) := hat _ _ hc.2
      have HD : Hid (R = if (l.getD k ([], 0)).1 = x then ((l.getD k ([], 0)).2 : Int) else fndI (l.drop (k + 1)) x) := Lib.hid (by
        rw [← hE.out, List.drop_eq_getElem_cons hlt, fndI_cons]
        have e : l.getD k ([], 0) = l[k] := by simp [List.getD, hlt]
        rw [e])
      clear hat hE hc
      obtain ⟨q, hq⟩ : ∃ q, (l.getD k ([], 0)).1 = q := ⟨_, rfl⟩
      obtain ⟨i, hi⟩ : ∃ q, (l.getD k ([], 0)).2 = q := ⟨_, rfl⟩
      rw [hq] at c0
      rw [hi] at c1
      rw [hq, hi] at HD
      clear hq hi
      by_cases hqp : q = x
      · subst hqp
        have HD2 : Hid (R = (i : Int)) := Lib.hid (by rw [HD.out, if_pos rfl])
        go_wp2_with fail
        go_ret
        exact ⟨by rw [HD2.out]; rfl, rfl⟩
      · have hne : (q == x) = false := beq_eq_false_iff_ne.2 hqp
        have HD2 : Hid (fndI (l.drop (k + 1)) x = R) := Lib.hid (by rw [HD.out, if_neg hqp])
        go_wp2_with fail
        exact ⟨⟨k + 1, by omega, by go_num, HD2, by first | rfl | trivial⟩, by simp [intOf]; omega⟩
    · have HD2 : Hid (R = -1) := Lib.hid (by rw [← hE.out, List.drop_eq_nil_of_le (by omega)]; rfl)
      go_wp2_with fail
      go_ret
      exact ⟨by rw [HD2.out]; rfl, rfl⟩
end Go.Proofs.YtjefcalndfcmdaaGreatDoor
namespace Go.Proofs.YtjefcalndfcmdaaGreatDoor
open Go.RowKit Go.Maps
attribute [local go_sem ↓] Go.wp_at_zero Go.wp_at_succ
theorem nmV_append (a b : Dir) : nmV (a ++ b) = nmV a ++ nmV b := by
  induction a with
  | nil => rfl
  | cons p r ih => show _ :: _ :: nmV (r ++ b) = _ :: _ :: (nmV r ++ nmV b); rw [ih]
theorem Tryz.info72n : (Tryz.prog.info? 72).map (fun i => (i.zero, i.size, i.bytes)) = some (some (.agg #[.string ByteArray.empty, .int .i64 0]), 2, 24) := by kernel_rfl
def OwnN (w : World) (B : Nat) (v : Value) (l : Dir) : Prop := w.ownsRow B 72 2 v l.length (nmV l)
theorem ownN_nil (w : World) (B : Nat) : OwnN w B (.slice none 0 0) [] := World.ownsRow_nil _ _ _ _
theorem ownN_slice {w : World} {B : Nat} {v : Value} {l : Dir} (h : OwnN w B v l) : ∃ a cap, v = .slice a l.length cap := by
  rcases h.2 with ⟨e, hn⟩ | ⟨g, cap, cur, e, _⟩
  · rw [hn]; exact ⟨none, 0, e⟩
  · exact ⟨_, _, e⟩
theorem ownN_c {w : World} {B : Nat} {v : Value} {l : Dir} (h : OwnN w B v l) : NmC (fun k => B ≤ k ∧ k < w.heap.size) w v l := own_cells h (nmV_one l)
theorem ownN_push {w2 : World} {B : Nat} {v : Value} {l : Dir} {x : Nm} {y : Nat} (h : w2.ownsRow B 72 2 v (l.length + 1) (nmV l ++ [.string ⟨x.toArray⟩, .int .i64 (y : Int)])) : OwnN w2 B v (l ++ [(x, y)]) := by
  unfold OwnN
  rw [nmV_append, List.length_append]; exact h
theorem srcN_one (w : World) (x : ByteArray) (y : Int) : Src Tryz.prog 2 30 (.slice (some ⟨w.heap.size, 0, none⟩) 1 1) 1 [.string x, .int .i64 y] (w.alloc (.cells #[.string x, .int .i64 y] 72)) :=
  Src.ofSlice _ Tryz.underlying30 _ 1 1 _ rfl (fun j u hj => by
    rw [add_pos, Nat.zero_add, World.cell?_alloc_mark]; simpa using hj) (fun u hu => by
    simp at hu; rcases hu with rfl | rfl <;> rfl)
theorem wout_snoc {l : Dir} {k : Nat} (h : k < l.length) (x : Nm) : wout (l.take (k + 1)) x = if (l.getD k ([], 0)).1 = x then wout (l.take k) x else wout (l.take k) x ++ [l.getD k ([], 0)] := by
  unfold wout
  rw [take_snoc h (d := ([], 0)), List.filter_append]
  by_cases e : (l.getD k ([], 0)).1 = x
  · rw [if_pos e, List.filter_cons_of_neg (by simpa using e), List.filter_nil, List.append_nil]
  · rw [if_neg e, List.filter_cons_of_pos (by simpa using e), List.filter_nil]
theorem wout_len (l : Dir) (x : Nm) : (wout l x).length ≤ l.length := List.length_filter_le _ _
set_option maxRecDepth 100000 in
theorem rwout_any (S : Nat → Prop) (v : Value) (l : Dir) (x : Nm) (w : World) (hv : NmC S w v l) (hS : ∀ k, S k → k < w.heap.size) (hl : l.length ≤ 4194304) :
    Calls Tryz.prog 74 #[v, .string ⟨x.toArray⟩] w fun e w' => ∃ v', e = .returned v' ∧ OwnN w' w.heap.size v' (wout l x) ∧ Below w.heap.size w w' := by
  obtain ⟨la, lc, rfl⟩ := CellsC.shape hv
  have HV := Lib.hid hv
  have HS := Lib.hid hS
  obtain ⟨i0, hi, hz0, hz1, hz2⟩ := info_parts Tryz.info72n
  clear hv hS
  go_enter Tryz.func74, Tryz.ntmps74
  go_wp2_with fail
  go_loopw [5, 6] (fun ov i wr => ∃ k : Nat, k ≤ l.length ∧ i = .int .i64 (k : Int) ∧ Hid (OwnN wr w.heap.size ov (wout (l.take k) x)) ∧ Hid (Below w.heap.size w wr)) (fun _ i _ => l.length - (intOf i).toNat)
  case atStart => exact ⟨0, Nat.zero_le _, rfl, Lib.hid (by rw [List.take_zero]; exact ownN_nil _ _), Lib.hid (Below.refl _ _)⟩
  case round =>
    obtain ⟨k, hk, rfl, hO, hW⟩ := hrel
    obtain ⟨out, hout⟩ : ∃ q, wout (l.take k) x = q := ⟨_, rfl⟩
    have HOU := Lib.hid hout
    rw [hout] at hO
    obtain ⟨oa, oc, rfl⟩ := ownN_slice hO.out
    have hol : out.length ≤ 4194304 := by
      rw [← hout]
      have h1 := wout_len (l.take k) x
      have h2 : (l.take k).length ≤ l.length := by rw [List.length_take]; omega
      omega
    clear hout
    by_cases hlt : k < l.length
    · obtain ⟨g1, o1, rfl, hSg, _, _, hat⟩ := CellsC.at HV.out (by omega)
      have hc := nmV_at hlt
      have hgl := HS.out _ hSg
      have c0 : wr.cell? ⟨g1, o1 + k * 2, none⟩ = some (.string ⟨(l.getD k ([], 0)).1.toArray⟩) := (hW.out.cell (p := ⟨g1, o1 + k * 2, none⟩) hgl).trans (hat _ _ hc.1)
      have c1 : wr.cell? ⟨g1, o1 + k * 2 + 1, none⟩ = some (.int .i64 ((l.getD k ([], 0)).2 : Int)) := (hW.out.cell (p := ⟨g1, o1 + k * 2 + 1, none⟩) hgl).trans (hat _ _ hc.2)
      have HD := Lib.hid (wout_snoc hlt x)
      rw [HOU.out] at HD
      clear hat hc hSg hgl
      obtain ⟨p, hp⟩ : ∃ q, l.getD k ([], 0) = q := ⟨_, rfl⟩
      rw [hp] at c0 c1 HD
      clear hp
      obtain ⟨q, i⟩ := p
      dsimp only at c0 c1 HD
      by_cases hqp : q = x
      · subst hqp
        have HD2 : Hid (wout (l.take (k + 1)) q = out) := Lib.hid (by rw [HD.out, if_pos rfl])
        clear c1
        go_wp2_with fail
        exact ⟨⟨k + 1, by omega, by go_num, Lib.hid (by rw [HD2.out]; exact hO.out), hW⟩, by simp [intOf]; omega⟩
      · have hne : (q == x) = false := beq_eq_false_iff_ne.2 hqp
        have HD2 : Hid (wout (l.take (k + 1)) x = out ++ [(q, i)]) := Lib.hid (by rw [HD.out, if_neg hqp])
        have hsz := hW.out.size
        go_wp2_with (at_builtin; refine wpList_own_src _ rfl _ _ 30 30 rfl w.heap.size 72 i0 (.agg #[.string ByteArray.empty, .int .i64 0]) 2 24 Tryz.underlying30 hi hz0 hz1 hz2 rfl (by decide) _ _ _ rfl (World.ownsRow.alloc hO.out _) _ 1 [.string ⟨q.toArray⟩, .int .i64 (i : Int)] rfl (srcN_one _ _ _) (by unfold maxLen; omega) (by omega) (by simp; omega) ?_)
        intro v5 w5 hown5 hg5
        have O5 : Hid (OwnN w5 w.heap.size v5 (wout (l.take (k + 1)) x)) := Lib.hid (by rw [HD2.out]; exact ownN_push hown5)
        have W5 : Hid (Below w.heap.size w w5) := Lib.hid ((hW.out.alloc hW.out.size _).grown hg5.gb (by simp; omega) (fun j hj => (World.ownsRow.lt hO.out j hj).1))
        clear hown5 hg5 c0 c1
        go_wp2_with fail
        exact ⟨⟨k + 1, by omega, by go_num, O5, W5⟩, by simp [intOf]; omega⟩
    · have HE : Hid (out = wout l x) := Lib.hid (by rw [← HOU.out, List.take_of_length_le (by omega)])
      go_wp2_with fail
      go_ret
      exact ⟨_, rfl, by rw [← HE.out]; exact hO.out, hW.out⟩
end Go.Proofs.YtjefcalndfcmdaaGreatDoor
namespace Go.Proofs.YtjefcalndfcmdaaGreatDoor
theorem insD_skip {x : Nm} {i : Nat} {A B : Dir} (h : ∀ p ∈ A, ¬ x < p.1) : insD x i (A ++ B) = A ++ insD x i B := by
  induction A with
  | nil => rfl
  | cons p r ih =>
    show (if x < p.1 then (x, i) :: p :: (r ++ B) else p :: insD x i (r ++ B)) = p :: (r ++ insD x i B)
    rw [if_neg (h p (List.mem_cons_self ..)), ih (fun q hq => h q (List.mem_cons_of_mem _ hq))]
theorem insD_head {x : Nm} {i : Nat} {B : Dir} (h : ∀ p ∈ B, x < p.1) : insD x i B = (x, i) :: B := by
  cases B with
  | nil => rfl
  | cons p r => show (if x < p.1 then (x, i) :: p :: r else p :: insD x i r) = _; rw [if_pos (h p (List.mem_cons_self ..))]
theorem insD_at {x : Nm} {i : Nat} {l : Dir} (hr : Rise l) {k : Nat} (hk : k ≤ l.length) (h1 : ∀ p ∈ l.drop k, x < p.1) (h2 : k = 0 ∨ ¬ x < (l.getD (k - 1) ([], 0)).1) : insD x i l = l.take k ++ (x, i) :: l.drop k := by
  have hA : ∀ p ∈ l.take k, ¬ x < p.1 := by
    intro p hp hlt
    rcases h2 with rfl | h2
    · simp at hp
    obtain ⟨j, hj, rfl⟩ := List.mem_iff_getElem.1 hp
    have hj2 : j < k := by rw [List.length_take] at hj; omega
    rw [List.getElem_take] at hlt
    have e : l.getD (k - 1) ([], 0) = l[k - 1]'(by omega) := by simp [List.getD, show k - 1 < l.length by omega]
    rw [e] at h2
    rcases Nat.lt_or_ge j (k - 1) with h3 | h3
    · exact h2 (nm_trans hlt (List.pairwise_iff_getElem.1 hr j (k - 1) (by omega) (by omega) h3))
    · have : j = k - 1 := by omega
      subst this
      exact h2 hlt
  have e := insD_skip (i := i) (B := l.drop k) hA
  rw [List.take_append_drop, insD_head h1] at e
  exact e
theorem wout_none {l : Dir} (hn : ∀ p ∈ l, p.1 ≠ []) : wout l [] = l := List.filter_eq_self.2 fun p hp => by simpa using hn p hp
def acI (a : Ac) : Int := match a.file with
  | none => -1
  | some i => (i : Int)
theorem drop_step {l : Dir} {m : Nat} (h : m < l.length) {x : Nm} (h1 : ∀ p ∈ l.drop (m + 1), x < p.1) (h2 : x < (l.getD m ([], 0)).1) : ∀ p ∈ l.drop m, x < p.1 := by
  rw [List.drop_eq_getElem_cons h]
  intro p hp
  rcases List.mem_cons.1 hp with rfl | hp
  · have e : l.getD m ([], 0) = l[m] := by simp [List.getD, h]
    rw [e] at h2; exact h2
  · exact h1 p hp
theorem nmV_take (l : Dir) (k : Nat) : (nmV l).take (k * 2) = nmV (l.take k) := by
  induction l generalizing k with
  | nil => simp [nmV]
  | cons p r ih =>
    cases k with
    | zero => rfl
    | succ k => rw [show (k + 1) * 2 = k * 2 + 1 + 1 by omega, List.take_succ_cons]; show _ :: (_ :: nmV r).take (k * 2 + 1) = _ :: _ :: nmV (r.take k); rw [List.take_succ_cons, ih]
theorem nmV_drop (l : Dir) (k : Nat) : (nmV l).drop (k * 2) = nmV (l.drop k) := by
  induction l generalizing k with
  | nil => simp [nmV]
  | cons p r ih =>
    cases k with
    | zero => rfl
    | succ k => rw [show (k + 1) * 2 = k * 2 + 1 + 1 by omega]; exact ih k
end Go.Proofs.YtjefcalndfcmdaaGreatDoor
