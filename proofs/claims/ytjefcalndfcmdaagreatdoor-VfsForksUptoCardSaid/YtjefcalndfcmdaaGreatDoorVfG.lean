/- Files made, renamed, removed. -/
import Derived.Test.YtjefcalndfcmdaaGreatDoorVfF
namespace Go.Proofs.YtjefcalndfcmdaaGreatDoor
open Go.RowKit Go.Maps
def createS (s : Fs) (x : Nm) : Fs × Int :=
  if checkN x ≠ 0 then (s, checkN x) else if fnd s.now x ≠ none then (s, 5) else if s.more = 0 then (s, 190) else (chg (tick (newF s)) ⟨[], x, some s.files.length⟩, 0)
def renameS (s : Fs) (x y : Nm) : Fs × Int :=
  match fnd s.now x with
  | none => (s, 4)
  | some i => if checkN y ≠ 0 then (s, checkN y) else if x = y then (s, 5) else if s.more = 0 then (s, 190) else (chg (tick s) ⟨x, y, some i⟩, 0)
def removeS (s : Fs) (x : Nm) : Fs × Int :=
  match fnd s.now x with
  | none => (s, 4)
  | some _ => if s.more = 0 then (s, 190) else (chg (tick s) ⟨x, [], none⟩, 0)
theorem createS_ok {s : Fs} (ok : FsOk s) (x : Nm) : FsOk (createS s x).1 := by
  unfold createS
  by_cases h1 : checkN x ≠ 0
  · rw [if_pos h1]; exact ok
  · rw [if_neg h1]
    by_cases h2 : fnd s.now x ≠ none
    · rw [if_pos h2]; exact ok
    · rw [if_neg h2]
      by_cases h3 : s.more = 0
      · rw [if_pos h3]; exact ok
      · rw [if_neg h3]; exact ok.create (Decidable.not_not.1 h1)
theorem renameS_ok {s : Fs} (ok : FsOk s) (x y : Nm) : FsOk (renameS s x y).1 := by
  unfold renameS
  cases hf : fnd s.now x with
  | none => exact ok
  | some i =>
    show FsOk (if checkN y ≠ 0 then (s, checkN y) else if x = y then (s, 5) else if s.more = 0 then (s, 190) else (chg (tick s) ⟨x, y, some i⟩, 0)).1
    by_cases h1 : checkN y ≠ 0
    · rw [if_pos h1]; exact ok
    · rw [if_neg h1]
      by_cases h2 : x = y
      · rw [if_pos h2]; exact ok
      · rw [if_neg h2]
        by_cases h3 : s.more = 0
        · rw [if_pos h3]; exact ok
        · rw [if_neg h3]; exact ok.rename hf (Decidable.not_not.1 h1)
theorem removeS_ok {s : Fs} (ok : FsOk s) (x : Nm) : FsOk (removeS s x).1 := by
  unfold removeS
  cases hf : fnd s.now x with
  | none => exact ok
  | some i =>
    by_cases h3 : s.more = 0
    · simp only [h3, if_true]; exact ok
    · simp only [h3, if_false]; exact ok.remove hf
theorem fndV_none {fb : Nat → Nat} {l : Dir} {x : Nm} (h : fnd l x = none) : fndV fb l x = .pointer none := by unfold fndV; rw [h]
theorem fndV_some {fb : Nat → Nat} {l : Dir} {x : Nm} {i : Nat} (h : fnd l x = some i) : fndV fb l x = .pointer (some ⟨fb i, 0, none⟩) := by unfold fndV; rw [h]
theorem FsUp.step {B : Nat} {X X' : FsX} {w w1 w' : World} (h : Below w.heap.size w w1) (k : FsUp B X w1 X' w') (hB : B ≤ w.heap.size) : FsUp B X w X' w' := (FsUp.of X h hB).trans k
set_option maxRecDepth 100000 in
set_option maxHeartbeats 1000000 in
theorem create_any {B : Nat} {X : FsX} {w : World} {bf : Nat} {s : Fs} (h : FsAt B X w bf s) (ok : FsOk s) (hs : s.steps ≤ 16777214) (hE : PEnv w) (x : Nm) (hx : x.length ≤ 4194304) :
    Calls Tryz.prog 18 #[.pointer (some ⟨bf, 0, none⟩), .string ⟨x.toArray⟩] w (FsP B X w bf (.int .i64 (createS s x).2) (createS s x).1) := by
  have H := Lib.hid h
  have OK := Lib.hid ok
  have HX := Lib.hid hx
  obtain ⟨r, hr⟩ : ∃ r, createS s x = r := ⟨_, rfl⟩
  have HR := Lib.hid hr
  rw [hr]
  have HC := Lib.hid (check_any x w hx hE)
  obtain ⟨c, hc⟩ : ∃ c, checkN x = c := ⟨_, rfl⟩
  rw [hc] at HC
  have HCE := Lib.hid hc
  clear h ok hE hx hr hc
  go_enter Tryz.func18, Tryz.ntmps18
  go_wp2_with fail
  refine HC.out.mono ?_
  rintro e w1 ⟨rfl, hb1⟩
  have B1 := Lib.hid hb1
  have H1 := Lib.hid (H.out.below hb1)
  clear hb1 HC
  by_cases h0 : c = 0
  · subst h0
    obtain ⟨_, _, c2, _⟩ := H1.out.cells
    have hl := H1.out.mn.look HX.out
    cases hf : fnd s.now x with
    | some i =>
      rw [fndV_some hf] at hl
      have HF := Lib.hid hf
      clear hf
      go_wp2_with fail
      go_ret
      have e : r = (s, 5) := by
        rw [← HR.out]; unfold createS
        rw [if_neg (by rw [HCE.out]; exact fun c => c rfl), if_pos (by rw [HF.out]; exact fun c => by cases c)]
      rw [e]
      exact ⟨rfl, X, H1.out, FsUp.of X B1.out H.out.baseB⟩
    | none =>
      rw [fndV_none hf] at hl
      have HF := Lib.hid hf
      clear hf
      go_wp2_with fail
      have hb2 : Below w1.heap.size w1 (w1.alloc (.cells #[.slice none 0 0, .int .i64 0] 78)) := (Below.refl _ w1).alloc (Nat.le_refl _) _
      have B2 := Lib.hid hb2
      have H2 := Lib.hid (H1.out.below hb2)
      have N2 := Lib.hid (new_five w1 #[.slice none 0 0, .int .i64 0] 78)
      have Z2 : Hid (w1.heap.size < (w1.alloc (.cells #[.slice none 0 0, .int .i64 0] 78)).heap.size) := Lib.hid (by simp)
      have T2 := Lib.hid H1.out.box
      have BB := Lib.hid H1.out.baseB
      clear hb2 c2 hl
      generalize w1.alloc (.cells #[.slice none 0 0, .int .i64 0] 78) = w2 at *
      obtain ⟨nb, hnb⟩ : ∃ n, w1.heap.size = n := ⟨_, rfl⟩
      have HNB := Lib.hid hnb
      rw [hnb] at N2 Z2 T2 BB ⊢
      clear hnb
      obtain ⟨H3, F3⟩ := H2.out.newFile OK.out T2.out BB.out Z2.out N2.out
      have HT3 : Hid (∀ k, X.T k = .no → k < nb → (withFile X s.files.length nb).T k = .no) := Lib.hid (fun k hk hl => by show (if k = nb then Role.file s.files.length else X.T k) = _; rw [if_neg (by omega)]; exact hk)
      have HT4 : Hid (∀ k, (withFile X s.files.length nb).T k ≠ .no → X.T k ≠ .no ∨ nb ≤ k) := Lib.hid (fun k hk => by
        by_cases e : k = nb
        · exact Or.inr (by omega)
        · left; intro c; exact hk (by show (if k = nb then Role.file s.files.length else X.T k) = _; rw [if_neg e]; exact c))
      have hup : ∀ X' w', FsUp B (withFile X s.files.length nb) w2 X' w' → FsUp B X w X' w' := fun X' w' k => by
        have hz1 := B1.out.size
        have hnbw := HNB.out
        refine ⟨((B1.out.mono H.out.baseB).trans (B2.out.mono H1.out.baseB)).trans k.below, fun q hq ht => ?_, fun q hq => ?_⟩
        · rw [k.far q (by have := B2.out.size; omega) (HT3.out q ht (by omega)), B2.out.block q (by omega), B1.out.block q hq]
        · rcases k.dom q hq with h1 | h1
          · rcases HT4.out q h1 with h2 | h2
            · exact Or.inl h2
            · right; omega
          · right; have := B2.out.size; omega
      have HUP := Lib.hid hup
      have e1 : (acV (withFile X s.files.length nb).fb ⟨[], x, some s.files.length⟩).toArray = #[.string ByteArray.empty, .string ⟨x.toArray⟩, .pointer (some ⟨nb, 0, none⟩)] := by
        unfold acV acP withFile; simp; rfl
      by_cases hm : s.more = 0
      · have HCC := Lib.hid (change_cut H3 hm ⟨[], x, some s.files.length⟩)
        rw [e1] at HCC
        have HM := Lib.hid hm
        clear e1 hup hm H3 F3
        refine HCC.out.mono ?_
        rintro e w3 ⟨rfl, hu⟩
        have U3 := Lib.hid hu
        clear hu HCC
        go_wp2_with fail
        go_ret
        have e : r = (s, 190) := by
          rw [← HR.out]; unfold createS
          rw [if_neg (by rw [HCE.out]; exact fun c => c rfl), if_neg (by rw [HF.out]; exact fun c => c rfl), if_pos HM.out]
        rw [e]
        have hbw : Below w.heap.size w w3 := (B1.out.trans (B2.out.mono B1.out.size)).trans (U3.out.mono (by have := B1.out.size; have := B2.out.size; omega))
        exact ⟨rfl, X, H.out.below hbw, FsUp.of X hbw H.out.baseB⟩
      · have HCC := Lib.hid (change_ok H3 OK.out.newF (by show s.steps ≤ _; omega) hm ⟨[], x, some s.files.length⟩ (Nat.zero_le _) HX.out (fun e => (check_yes HCE.out).1 e.symm) (fun c => by cases c) (fun i hi => by injection hi with hi; rw [← hi]; exact F3))
        rw [e1] at HCC
        have HM := Lib.hid hm
        clear e1 hup hm H3 F3
        refine HCC.out.mono ?_
        rintro e w3 ⟨rfl, X', hX, hu⟩
        have U3 := Lib.hid hu
        have HX3 := Lib.hid hX
        clear hu hX HCC
        go_wp2_with fail
        go_ret
        have e : r = (chg (tick (newF s)) ⟨[], x, some s.files.length⟩, 0) := by
          rw [← HR.out]; unfold createS
          rw [if_neg (by rw [HCE.out]; exact fun c => c rfl), if_neg (by rw [HF.out]; exact fun c => c rfl), if_neg HM.out]
        rw [e]
        exact ⟨rfl, X', HX3.out, HUP.out _ _ U3.out⟩
  · have g0 : (c != 0) = true := bne_iff_ne.2 h0
    go_wp2_with fail
    go_ret
    have e : r = (s, c) := by
      rw [← HR.out]; unfold createS
      rw [if_pos (by rw [HCE.out]; exact h0), HCE.out]
    rw [e]
    exact ⟨rfl, X, H1.out, FsUp.of X B1.out H.out.baseB⟩
set_option maxRecDepth 100000 in
set_option maxHeartbeats 1000000 in
theorem rename_any {B : Nat} {X : FsX} {w : World} {bf : Nat} {s : Fs} (h : FsAt B X w bf s) (ok : FsOk s) (hs : s.steps ≤ 16777214) (hE : PEnv w) (x y : Nm) (hx : x.length ≤ 4194304) (hy : y.length ≤ 4194304) :
    Calls Tryz.prog 22 #[.pointer (some ⟨bf, 0, none⟩), .string ⟨x.toArray⟩, .string ⟨y.toArray⟩] w (FsP B X w bf (.int .i64 (renameS s x y).2) (renameS s x y).1) := by
  have H := Lib.hid h
  have OK := Lib.hid ok
  have HX := Lib.hid hx
  have HY := Lib.hid hy
  obtain ⟨r, hr⟩ : ∃ r, renameS s x y = r := ⟨_, rfl⟩
  have HR := Lib.hid hr
  rw [hr]
  have HC := Lib.hid (check_any y w hy hE)
  obtain ⟨c, hc⟩ : ∃ c, checkN y = c := ⟨_, rfl⟩
  rw [hc] at HC
  have HCE := Lib.hid hc
  obtain ⟨_, _, c2, _⟩ := h.cells
  have hl := h.mn.look hx
  clear h ok hE hx hy hr hc
  cases hf : fnd s.now x with
  | none =>
    rw [fndV_none hf] at hl
    have HF := Lib.hid hf
    clear hf
    go_enter Tryz.func22, Tryz.ntmps22
    go_wp2_with fail
    go_ret
    have e : r = (s, 4) := by rw [← HR.out]; unfold renameS; rw [HF.out]
    rw [e]
    exact ⟨rfl, X, H.out, FsUp.refl _ _ _⟩
  | some i =>
    rw [fndV_some hf] at hl
    have HF := Lib.hid hf
    have HR2 : Hid (r = if checkN y ≠ 0 then (s, checkN y) else if x = y then (s, 5) else if s.more = 0 then (s, 190) else (chg (tick s) ⟨x, y, some i⟩, 0)) := Lib.hid (by rw [← HR.out]; unfold renameS; rw [hf])
    clear hf
    go_enter Tryz.func22, Tryz.ntmps22
    go_wp2_with fail
    refine HC.out.mono ?_
    rintro e w1 ⟨rfl, hb1⟩
    have B1 := Lib.hid hb1
    have H1 := Lib.hid (H.out.below hb1)
    clear hb1 HC c2 hl
    by_cases h0 : c = 0
    · subst h0
      by_cases hxy : x = y
      · have hq : (x == y) = true := beq_iff_eq.2 hxy
        have HXY := Lib.hid hxy
        clear hxy
        go_wp2_with fail
        go_ret
        rw [HR2.out, if_neg (by rw [HCE.out]; exact fun c => c rfl), if_pos HXY.out]
        exact ⟨rfl, X, H1.out, FsUp.of X B1.out H.out.baseB⟩
      · have hq : (x == y) = false := beq_eq_false_iff_ne.2 hxy
        have HXY := Lib.hid hxy
        clear hxy
        have e1 : (acV X.fb ⟨x, y, some i⟩).toArray = #[.string ⟨x.toArray⟩, .string ⟨y.toArray⟩, .pointer (some ⟨X.fb i, 0, none⟩)] := by
          unfold acV acP; rfl
        by_cases hm : s.more = 0
        · have HCC := Lib.hid (change_cut H1.out hm ⟨x, y, some i⟩)
          rw [e1] at HCC
          have HM := Lib.hid hm
          clear e1 hm
          go_wp2_with fail
          refine HCC.out.mono ?_
          rintro e w3 ⟨rfl, hu⟩
          have U3 := Lib.hid (B1.out.trans (hu.mono B1.out.size))
          clear hu HCC
          go_wp2_with fail
          go_ret
          rw [HR2.out, if_neg (by rw [HCE.out]; exact fun c => c rfl), if_neg HXY.out, if_pos HM.out]
          exact ⟨rfl, X, H.out.below U3.out, FsUp.of X U3.out H.out.baseB⟩
        · have HCC := Lib.hid (change_ok H1.out OK.out (by omega) hm ⟨x, y, some i⟩ HX.out HY.out HXY.out (fun c => by cases c) (fun j hj => by injection hj with hj; rw [← hj]; exact H1.out.fil i (OK.out.live (fnd_mem HF.out))))
          rw [e1] at HCC
          have HM := Lib.hid hm
          clear e1 hm
          go_wp2_with fail
          refine HCC.out.mono ?_
          rintro e w3 ⟨rfl, X', hX, hu⟩
          have U3 := Lib.hid hu
          have HX3 := Lib.hid hX
          clear hu hX HCC
          go_wp2_with fail
          go_ret
          rw [HR2.out, if_neg (by rw [HCE.out]; exact fun c => c rfl), if_neg HXY.out, if_neg HM.out]
          exact ⟨rfl, X', HX3.out, FsUp.step B1.out U3.out H.out.baseB⟩
    · have g0 : (c != 0) = true := bne_iff_ne.2 h0
      go_wp2_with fail
      go_ret
      rw [HR2.out, if_pos (by rw [HCE.out]; exact h0), HCE.out]
      exact ⟨rfl, X, H1.out, FsUp.of X B1.out H.out.baseB⟩
set_option maxRecDepth 100000 in
set_option maxHeartbeats 1000000 in
theorem remove_any {B : Nat} {X : FsX} {w : World} {bf : Nat} {s : Fs} (h : FsAt B X w bf s) (ok : FsOk s) (hs : s.steps ≤ 16777214) (x : Nm) (hx : x.length ≤ 4194304) :
    Calls Tryz.prog 31 #[.pointer (some ⟨bf, 0, none⟩), .string ⟨x.toArray⟩] w (FsP B X w bf (.int .i64 (removeS s x).2) (removeS s x).1) := by
  have H := Lib.hid h
  have OK := Lib.hid ok
  have HX := Lib.hid hx
  obtain ⟨r, hr⟩ : ∃ r, removeS s x = r := ⟨_, rfl⟩
  have HR := Lib.hid hr
  rw [hr]
  obtain ⟨_, _, c2, _⟩ := h.cells
  have hl := h.mn.look hx
  clear h ok hx hr
  cases hf : fnd s.now x with
  | none =>
    rw [fndV_none hf] at hl
    have HF := Lib.hid hf
    clear hf
    go_enter Tryz.func31, Tryz.ntmps31
    go_wp2_with fail
    go_ret
    have e : r = (s, 4) := by rw [← HR.out]; unfold removeS; rw [HF.out]
    rw [e]
    exact ⟨rfl, X, H.out, FsUp.refl _ _ _⟩
  | some i =>
    rw [fndV_some hf] at hl
    have HF := Lib.hid hf
    have HR2 : Hid (r = if s.more = 0 then (s, 190) else (chg (tick s) ⟨x, [], none⟩, 0)) := Lib.hid (by rw [← HR.out]; unfold removeS; rw [hf])
    clear hf
    have e1 : (acV X.fb ⟨x, [], none⟩).toArray = #[.string ⟨x.toArray⟩, .string ByteArray.empty, .pointer none] := by
      unfold acV acP; rfl
    by_cases hm : s.more = 0
    · have HCC := Lib.hid (change_cut H.out hm ⟨x, [], none⟩)
      rw [e1] at HCC
      have HM := Lib.hid hm
      clear e1 hm
      go_enter Tryz.func31, Tryz.ntmps31
      go_wp2_with fail
      refine HCC.out.mono ?_
      rintro e w3 ⟨rfl, hu⟩
      have U3 := Lib.hid hu
      clear hu HCC
      go_wp2_with fail
      go_ret
      rw [HR2.out, if_pos HM.out]
      exact ⟨rfl, X, H.out.below U3.out, FsUp.of X U3.out H.out.baseB⟩
    · have HCC := Lib.hid (change_ok H.out OK.out (by omega) hm ⟨x, [], none⟩ HX.out (Nat.zero_le _) (OK.out.nowOk.nm _ (fnd_mem HF.out)).1 (fun _ => no_empty OK.out) (fun j hj => by cases hj))
      rw [e1] at HCC
      have HM := Lib.hid hm
      clear e1 hm
      go_enter Tryz.func31, Tryz.ntmps31
      go_wp2_with fail
      refine HCC.out.mono ?_
      rintro e w3 ⟨rfl, X', hX, hu⟩
      have U3 := Lib.hid hu
      have HX3 := Lib.hid hX
      clear hu hX HCC
      go_wp2_with fail
      go_ret
      rw [HR2.out, if_neg HM.out]
      exact ⟨rfl, X', HX3.out, U3.out⟩
end Go.Proofs.YtjefcalndfcmdaaGreatDoor
