/- Files made, renamed, removed. A file's bytes: made durable, cut off, appended to. A file cut off, appended to, read. A file appended to, read. -/
import Derived.Test.YtgknihcpmpfocaaDoorVfCF
import Derived.RegionTactic
namespace Go.Proofs.YtgknihcpmpfocaaDoor
open Go.RowKit Go.Maps
def createS (s : Fs) (x : Nm) : Fs × Int :=
  if checkN x ≠ 0 then (s, checkN x) else if fnd s.now x ≠ none then (s, 5) else if s.more = 0 then (s, 190) else (chg (tick (newF s)) ⟨[], x, some s.files.length⟩, 0)
def renameS (s : Fs) (x y : Nm) : Fs × Int :=
  match fnd s.now x with
  | none => (s, 4)
  | some i => if checkN y ≠ 0 then (s, checkN y) else if x = y then (s, 5) else if s.more = 0 then (s, 190) else (chg (tick s) ⟨x, y, some i⟩, 0)
def removeS (s : Fs) (x : Nm) : Fs × Int :=
  match fnd s.now x with
  | none => (s, 4)
  | some _ => if s.more = 0 then (s, 190) else (chg (tick s) ⟨x, [], none⟩, 0)
theorem createS_ok {s : Fs} (ok : FsOk s) (x : Nm) : FsOk (createS s x).1 := by
  unfold createS
  by_cases h1 : checkN x ≠ 0
  · rw [if_pos h1]; exact ok
  · rw [if_neg h1]
    by_cases h2 : fnd s.now x ≠ none
    · rw [if_pos h2]; exact ok
    · rw [if_neg h2]
      by_cases h3 : s.more = 0
      · rw [if_pos h3]; exact ok
      · rw [if_neg h3]; exact ok.create (Decidable.not_not.1 h1)
theorem renameS_ok {s : Fs} (ok : FsOk s) (x y : Nm) : FsOk (renameS s x y).1 := by
  unfold renameS
  cases hf : fnd s.now x with
  | none => exact ok
  | some i =>
    show FsOk (if checkN y ≠ 0 then (s, checkN y) else if x = y then (s, 5) else if s.more = 0 then (s, 190) else (chg (tick s) ⟨x, y, some i⟩, 0)).1
    by_cases h1 : checkN y ≠ 0
    · rw [if_pos h1]; exact ok
    · rw [if_neg h1]
      by_cases h2 : x = y
      · rw [if_pos h2]; exact ok
      · rw [if_neg h2]
        by_cases h3 : s.more = 0
        · rw [if_pos h3]; exact ok
        · rw [if_neg h3]; exact ok.rename hf (Decidable.not_not.1 h1)
theorem removeS_ok {s : Fs} (ok : FsOk s) (x : Nm) : FsOk (removeS s x).1 := by
  unfold removeS
  cases hf : fnd s.now x with
  | none => exact ok
  | some i =>
    by_cases h3 : s.more = 0
    · simp only [h3, if_true]; exact ok
    · simp only [h3, if_false]; exact ok.remove hf
theorem fndV_none {fb : Nat → Nat} {l : Dir} {x : Nm} (h : fnd l x = none) : fndV fb l x = .pointer none := by unfold fndV; rw [h]
theorem fndV_some {fb : Nat → Nat} {l : Dir} {x : Nm} {i : Nat} (h : fnd l x = some i) : fndV fb l x = .pointer (some ⟨fb i, 0, none⟩) := by unfold fndV; rw [h]
theorem FsUp.step {B : Nat} {X X' : FsX} {w w1 w' : World} (h : Below w.heap.size w w1) (k : FsUp B X w1 X' w') (hB : B ≤ w.heap.size) : FsUp B X w X' w' := (FsUp.of X h hB).trans k
set_option maxRecDepth 100000 in
set_option maxHeartbeats 1000000 in
theorem create_any {B : Nat} {X : FsX} {w : World} {bf : Nat} {s : Fs} (h : FsAt B X w bf s) (ok : FsOk s) (hs : s.steps ≤ 16777214) (hE : PEnv w) (x : Nm) (hx : x.length ≤ 4194304) :
    Calls Tryd.prog 30 #[.pointer (some ⟨bf, 0, none⟩), .string ⟨x.toArray⟩] w (FsP B X w bf (.int .i64 (createS s x).2) (createS s x).1) := by
  have H := Lib.hid h
  have OK := Lib.hid ok
  have HX := Lib.hid hx
  obtain ⟨r, hr⟩ : ∃ r, createS s x = r := ⟨_, rfl⟩
  have HR := Lib.hid hr
  rw [hr]
  have HC := Lib.hid (check_any x w hx hE)
  obtain ⟨c, hc⟩ : ∃ c, checkN x = c := ⟨_, rfl⟩
  rw [hc] at HC
  have HCE := Lib.hid hc
  clear h ok hE hx hr hc
  go_enter Tryd.func30, Tryd.ntmps30
  go_wp2_with fail
  refine HC.out.mono ?_
  rintro e w1 ⟨rfl, hb1⟩
  have B1 := Lib.hid hb1
  have H1 := Lib.hid (H.out.below hb1)
  clear hb1 HC
  by_cases h0 : c = 0
  · subst h0
    obtain ⟨_, _, c2, _⟩ := H1.out.cells
    have hl := H1.out.mn.look HX.out
    cases hf : fnd s.now x with
    | some i =>
      rw [fndV_some hf] at hl
      have HF := Lib.hid hf
      clear hf
      go_wp2_with fail
      go_ret
      have e : r = (s, 5) := by
        rw [← HR.out]; unfold createS
        rw [if_neg (by rw [HCE.out]; exact fun c => c rfl), if_pos (by rw [HF.out]; exact fun c => by cases c)]
      rw [e]
      exact ⟨rfl, X, H1.out, FsUp.of X B1.out H.out.baseB⟩
    | none =>
      rw [fndV_none hf] at hl
      have HF := Lib.hid hf
      clear hf
      go_wp2_with fail
      have hb2 : Below w1.heap.size w1 (w1.alloc (.cells #[.slice none 0 0, .int .i64 0] 84)) := (Below.refl _ w1).alloc (Nat.le_refl _) _
      have B2 := Lib.hid hb2
      have H2 := Lib.hid (H1.out.below hb2)
      have N2 := Lib.hid (new_five w1 #[.slice none 0 0, .int .i64 0] 84)
      have Z2 : Hid (w1.heap.size < (w1.alloc (.cells #[.slice none 0 0, .int .i64 0] 84)).heap.size) := Lib.hid (by simp)
      have T2 := Lib.hid H1.out.box
      have BB := Lib.hid H1.out.baseB
      clear hb2 c2 hl
      generalize w1.alloc (.cells #[.slice none 0 0, .int .i64 0] 84) = w2 at *
      obtain ⟨nb, hnb⟩ : ∃ n, w1.heap.size = n := ⟨_, rfl⟩
      have HNB := Lib.hid hnb
      rw [hnb] at N2 Z2 T2 BB ⊢
      clear hnb
      obtain ⟨H3, F3⟩ := H2.out.newFile OK.out T2.out BB.out Z2.out N2.out
      have HT3 : Hid (∀ k, X.T k = .no → k < nb → (withFile X s.files.length nb).T k = .no) := Lib.hid (fun k hk hl => by show (if k = nb then Role.file s.files.length else X.T k) = _; rw [if_neg (by omega)]; exact hk)
      have HT4 : Hid (∀ k, (withFile X s.files.length nb).T k ≠ .no → X.T k ≠ .no ∨ nb ≤ k) := Lib.hid (fun k hk => by
        by_cases e : k = nb
        · exact Or.inr (by omega)
        · left; intro c; exact hk (by show (if k = nb then Role.file s.files.length else X.T k) = _; rw [if_neg e]; exact c))
      have hup : ∀ X' w', FsUp B (withFile X s.files.length nb) w2 X' w' → FsUp B X w X' w' := fun X' w' k => by
        have hz1 := B1.out.size
        have hnbw := HNB.out
        refine ⟨((B1.out.mono H.out.baseB).trans (B2.out.mono H1.out.baseB)).trans k.below, fun q hq ht => ?_, fun q hq => ?_⟩
        · rw [k.far q (by have := B2.out.size; omega) (HT3.out q ht (by omega)), B2.out.block q (by omega), B1.out.block q hq]
        · rcases k.dom q hq with h1 | h1
          · rcases HT4.out q h1 with h2 | h2
            · exact Or.inl h2
            · right; omega
          · right; have := B2.out.size; omega
      have HUP := Lib.hid hup
      have e1 : (acV (withFile X s.files.length nb).fb ⟨[], x, some s.files.length⟩).toArray = #[.string ByteArray.empty, .string ⟨x.toArray⟩, .pointer (some ⟨nb, 0, none⟩)] := by
        unfold acV acP withFile; simp; rfl
      by_cases hm : s.more = 0
      · have HCC := Lib.hid (change_cut H3 hm ⟨[], x, some s.files.length⟩)
        rw [e1] at HCC
        have HM := Lib.hid hm
        clear e1 hup hm H3 F3
        refine HCC.out.mono ?_
        rintro e w3 ⟨rfl, hu⟩
        have U3 := Lib.hid hu
        clear hu HCC
        go_wp2_with fail
        go_ret
        have e : r = (s, 190) := by
          rw [← HR.out]; unfold createS
          rw [if_neg (by rw [HCE.out]; exact fun c => c rfl), if_neg (by rw [HF.out]; exact fun c => c rfl), if_pos HM.out]
        rw [e]
        have hbw : Below w.heap.size w w3 := (B1.out.trans (B2.out.mono B1.out.size)).trans (U3.out.mono (by have := B1.out.size; have := B2.out.size; omega))
        exact ⟨rfl, X, H.out.below hbw, FsUp.of X hbw H.out.baseB⟩
      · have HCC := Lib.hid (change_ok H3 OK.out.newF (by show s.steps ≤ _; omega) hm ⟨[], x, some s.files.length⟩ (Nat.zero_le _) HX.out (fun e => (check_yes HCE.out).1 e.symm) (fun c => by cases c) (fun i hi => by injection hi with hi; rw [← hi]; exact F3))
        rw [e1] at HCC
        have HM := Lib.hid hm
        clear e1 hup hm H3 F3
        refine HCC.out.mono ?_
        rintro e w3 ⟨rfl, X', hX, hu⟩
        have U3 := Lib.hid hu
        have HX3 := Lib.hid hX
        clear hu hX HCC
        go_wp2_with fail
        go_ret
        have e : r = (chg (tick (newF s)) ⟨[], x, some s.files.length⟩, 0) := by
          rw [← HR.out]; unfold createS
          rw [if_neg (by rw [HCE.out]; exact fun c => c rfl), if_neg (by rw [HF.out]; exact fun c => c rfl), if_neg HM.out]
        rw [e]
        exact ⟨rfl, X', HX3.out, HUP.out _ _ U3.out⟩
  · have g0 : (c != 0) = true := bne_iff_ne.2 h0
    go_wp2_with fail
    go_ret
    have e : r = (s, c) := by
      rw [← HR.out]; unfold createS
      rw [if_pos (by rw [HCE.out]; exact h0), HCE.out]
    rw [e]
    exact ⟨rfl, X, H1.out, FsUp.of X B1.out H.out.baseB⟩
end Go.Proofs.YtgknihcpmpfocaaDoor
namespace Go.Proofs.YtgknihcpmpfocaaDoor
open Go.RowKit Go.Maps
theorem run_mark0 {P : Program} (w : World) (base : Nat) (t tx ty e : TypeId) (i : TypeInfo) (ht : P.underlying t = some (.slice e)) (hi : P.info? e = some i) (hsize : i.size = 1)
    (v : Value) (xs : List Value) (hown : RowM w base v xs) (x : Value) (hs : Src P 1 tx x 0 [] w) : (Builtin.append_ #[t, tx] ty #[v, x]).run P w = .ok v w := by
  have hc := hs.cells
  have hlen0 := hs.len
  rcases hown with ⟨rfl, rfl⟩ | ⟨g, cap, rfl, _, _, hnc, _, _, _⟩
  · rcases hs.kind with ⟨e', hk⟩ | hk <;> simp [Builtin.append_, run_underlying ht, run_underlying hk, sizeOf, typeInfo, hi, hsize, hlen0, hc]
  · rcases hs.kind with ⟨e', hk⟩ | hk <;> simp [Builtin.append_, run_underlying ht, run_underlying hk, sizeOf, typeInfo, hi, hsize, hlen0, hc, hnc, storeCells]
theorem wpList_markAny {P : Program} {ops : Array Oper} {rest : List Oper} {o : Oper} {a : Act} {Q : Exit → Act → World → Prop} (w : World) (hgd : o.guard = none) (s x : Operand) (t tx : TypeId)
    (ho : o.op = .call { callee := .builtin .append, args := #[s, x], argTypes := #[t, tx] })
    (base : Nat) (e : TypeId) (i : TypeInfo) (z : Value) (bytes : Nat) (ht : P.underlying t = some (.slice e)) (hi : P.info? e = some i) (hz : i.zero = some z)
    (hsize : i.size = 1) (hby : i.bytes = bytes) (hzs : z.cells.size = 1)
    (v : Value) (xs : List Value) (hv : a.eval s = v) (hown : RowM w base v xs)
    (xv : Value) (m : Nat) (news : List Value) (hx : a.eval x = xv) (hs : Src P 1 tx xv m news w)
    (h63 : xs.length + m ≤ maxLen) (hbytes : (xs.length + m) * bytes ≤ 140737488355328) (hbase : base ≤ w.heap.size)
    (h : ∀ v' w', RowM w' base v' (xs ++ news) → Grew w w' v v' → wpList P ops Q rest (a.put o.dst v') w') : wpList P ops Q (o :: rest) a w := by
  by_cases hm : 0 < m
  · exact wpList_mark w hgd s x t tx ho base e i z bytes ht hi hz hsize hby hzs v xs hv hown xv m news hx hs hm h63 hbytes hbase h
  · obtain rfl : m = 0 := by omega
    have hn : news = [] := List.eq_nil_of_length_eq_zero (by have := hs.newsLen; simpa using this)
    subst hn
    refine wpList_plain hgd fun _ hK => ?_
    have hr := run_mark0 (P := P) w base t tx o.type e i ht hi hsize v xs hown xv hs
    unfold Oper.wp execOp
    simp only [ho, resolve, invoke, builtin, Sem.run_bind, Sem.run_pure, Result.andThen_ok, List.map_toArray, List.map_cons, List.map_nil, hv, hx, hr]
    exact hK _ _ (h v w (by rw [List.append_nil]; exact hown) (Grew.refl w v))
/-- The same row, its end cut off, and no room left behind it. -/
theorem RowM.cut {w : World} {B : Nat} {a : Option Addr} {n c : Nat} {xs : List Value} (h : RowM w B (.slice a n c) xs) {k : Nat} (hk : k ≤ xs.length) : RowM w B (.slice a k k) (xs.take k) := by
  have hl : (xs.take k).length = k := by rw [List.length_take]; omega
  rcases h with ⟨h0, h1⟩ | ⟨g, cap, h1, hbg, hgs, hnc, hcm, hth, hra⟩
  · subst h0
    injection h1 with h1 h2 h3
    obtain rfl : k = 0 := by simpa using hk
    exact Or.inl ⟨by simp, by rw [h1]⟩
  · injection h1 with h1 h2 h3
    refine Or.inr ⟨g, k, by rw [h1, hl], hbg, hgs, by omega, by omega, fun j hj => hth j (by omega), fun j u hj => hra j u ?_⟩
    rw [List.getElem?_take] at hj
    split at hj
    · exact hj
    · cases hj
theorem own_len (a : Option Addr) (n c n' c' : Nat) : (Value.slice a n c).ownBlock = (Value.slice a n' c').ownBlock := by cases a <;> rfl
def CutP (b B n : Nat) (v : Value) (l : List UInt8) (w : World) (e : Ending) (w' : World) : Prop :=
  e = .returned (.tuple #[]) ∧ ∃ v', w'.heap[b]? = some (.cells #[v', .int .i64 (n : Int)] 84 (0, 0)) ∧ RowM w' B v' (bv (l.take n)) ∧ (∀ k, v'.ownBlock = some k → v.ownBlock = some k) ∧ Alone b w w'
set_option maxHeartbeats 1000000 in
theorem fcut_any {w : World} {b B n : Nat} {v d : Value} {l : List UInt8} (hb : w.heap[b]? = some (.cells #[v, d] 84 (0, 0))) (hr : RowM w B v (bv l)) (hn : n ≤ l.length) (_ : l.length ≤ 4194304) (hne : ∀ k, v.ownBlock = some k → k ≠ b) :
    Calls Tryd.prog 46 #[.pointer (some ⟨b, 0, none⟩), .int .i64 (n : Int)] w (CutP b B n v l w) := by
  obtain ⟨sa, sc, rfl⟩ := hr.shape
  have c0 : w.cell? ⟨b, 0, none⟩ = some (.slice sa (bv l).length sc) := (cell_of_row _ _ _ _ _ _ hb).trans rfl
  have c1 : w.cell? ⟨b, 1, none⟩ = some d := (cell_of_row _ _ _ _ _ _ hb).trans rfl
  have f0 : w.frozen? ⟨b, 0, none⟩ = false := by unfold World.frozen?; rw [hb]; simp
  have f1 : w.frozen? ⟨b, 1, none⟩ = false := by unfold World.frozen?; rw [hb]; simp
  have hcap : l.length ≤ sc := by
    rcases hr with ⟨h0, h1⟩ | ⟨g, cap, h1, _, _, h2, _⟩
    · injection h1 with _ h3 _; rw [bv_len] at h3; omega
    · injection h1 with _ _ h3; rw [bv_len] at h2; omega
  have hcm : sc ≤ maxLen := by
    rcases hr with ⟨h0, h1⟩ | ⟨g, cap, h1, _, _, _, h2, _⟩
    · injection h1 with _ _ h3; omega
    · injection h1 with _ _ h3; omega
  rw [bv_len] at c0
  have HB := Lib.hid hb
  have HRR := Lib.hid (hr.cut (k := n) (by rw [bv_len]; exact hn))
  have HNE := Lib.hid hne
  clear hb hr hne
  unfold maxLen at hcm
  go_enter Tryd.func46, Tryd.ntmps46
  go_wp2_with fail
  go_end0
  have hk : ∀ k, k ≠ b → ((w.setCell ⟨b, 0, none⟩ (.slice sa n n)).setCell ⟨b, 1, none⟩ (.int .i64 (n : Int))).heap[k]? = w.heap[k]? := fun k hk => by
    rw [Below.heap_setCell _ _ _ k hk, Below.heap_setCell _ _ _ k hk]
  refine ⟨rfl, .slice sa n n, ?_, ?_, fun k hk => (own_len sa _ _ _ _).symm.trans hk, (Alone.set b 0 w _).trans (Alone.set b 1 _ _)⟩
  · rw [cells_set (cells_set HB.out _) _]; rfl
  · rw [bv_take]
    exact HRR.out.kept (by simp) (fun k e => hk k (HNE.out k ((own_len sa _ _ _ _).trans e)))
def syncS (s : Fs) (x : Nm) : Fs × Int :=
  match fnd s.now x with
  | none => (s, 4)
  | some i => if s.more = 0 then (s, 190) else (putF (tick s) i ⟨(s.files.getD i noFi).data, (s.files.getD i noFi).data.length⟩, 0)
def cutS (s : Fs) (x : Nm) (n : Int) : Fs × Int :=
  match fnd s.now x with
  | none => (s, 4)
  | some i => if n < 0 ∨ ((s.files.getD i noFi).data.length : Int) < n then (s, 1) else if s.more = 0 then (s, 190) else (putF (tick s) i ⟨(s.files.getD i noFi).data.take n.toNat, n.toNat⟩, 0)
def appendS (s : Fs) (x : Nm) (b : List UInt8) : Fs × Int :=
  match fnd s.now x with
  | none => (s, 4)
  | some i => if (s.room : Int) - (used s : Int) < (b.length : Int) then (s, 3) else if s.more = 0 then (s, 190) else (putF (tick s) i ⟨(s.files.getD i noFi).data ++ b, (s.files.getD i noFi).dur⟩, 0)
theorem getD_mem {fs : List Fi} {i : Nat} (h : i < fs.length) : fs.getD i noFi ∈ fs := by simp [List.getD, h]
theorem syncS_ok {s : Fs} (ok : FsOk s) (x : Nm) : FsOk (syncS s x).1 := by
  unfold syncS
  cases hf : fnd s.now x with
  | none => exact ok
  | some i =>
    show FsOk (if s.more = 0 then (s, 190) else (putF (tick s) i ⟨(s.files.getD i noFi).data, (s.files.getD i noFi).data.length⟩, 0)).1
    by_cases h3 : s.more = 0
    · rw [if_pos h3]; exact ok
    · rw [if_neg h3]; exact ok.tick.putF ⟨Nat.le_refl _, (ok.dat _ (getD_mem (ok.nowOk.lt _ (fnd_mem hf)))).2⟩
theorem cutS_ok {s : Fs} (ok : FsOk s) (x : Nm) (n : Int) : FsOk (cutS s x n).1 := by
  unfold cutS
  cases hf : fnd s.now x with
  | none => exact ok
  | some i =>
    show FsOk (if n < 0 ∨ ((s.files.getD i noFi).data.length : Int) < n then (s, 1) else if s.more = 0 then (s, 190) else (putF (tick s) i ⟨(s.files.getD i noFi).data.take n.toNat, n.toNat⟩, 0)).1
    by_cases h1 : n < 0 ∨ ((s.files.getD i noFi).data.length : Int) < n
    · rw [if_pos h1]; exact ok
    · rw [if_neg h1]
      by_cases h3 : s.more = 0
      · rw [if_pos h3]; exact ok
      · rw [if_neg h3]
        have h4 : (s.files.getD i noFi).data.length ≤ 4194304 := (ok.dat _ (getD_mem (ok.nowOk.lt _ (fnd_mem hf)))).2
        exact ok.tick.putF ⟨by show n.toNat ≤ ((s.files.getD i noFi).data.take n.toNat).length; rw [List.length_take]; omega, by show ((s.files.getD i noFi).data.take n.toNat).length ≤ _; rw [List.length_take]; omega⟩
theorem used_mem {fs : List Fi} {l : Dir} {x : Nm} {i : Nat} (h : fnd l x = some i) : (fs.getD i noFi).data.length ≤ usedD fs l := by
  have hm := fnd_mem h
  clear h
  induction l with
  | nil => cases hm
  | cons p r ih =>
    show _ ≤ (fs.getD p.2 noFi).data.length + usedD fs r
    rcases List.mem_cons.1 hm with e | hm
    · rw [← e]; exact Nat.le_add_right _ _
    · have := ih hm; omega
theorem appendS_ok {s : Fs} (ok : FsOk s) (x : Nm) (b : List UInt8) : FsOk (appendS s x b).1 := by
  unfold appendS
  cases hf : fnd s.now x with
  | none => exact ok
  | some i =>
    show FsOk (if (s.room : Int) - (used s : Int) < (b.length : Int) then (s, 3) else if s.more = 0 then (s, 190) else (putF (tick s) i ⟨(s.files.getD i noFi).data ++ b, (s.files.getD i noFi).dur⟩, 0)).1
    by_cases h1 : (s.room : Int) - (used s : Int) < (b.length : Int)
    · rw [if_pos h1]; exact ok
    · rw [if_neg h1]
      by_cases h3 : s.more = 0
      · rw [if_pos h3]; exact ok
      · rw [if_neg h3]
        have h4 : (s.files.getD i noFi).dur ≤ (s.files.getD i noFi).data.length ∧ (s.files.getD i noFi).data.length ≤ 4194304 := ok.dat _ (getD_mem (ok.nowOk.lt _ (fnd_mem hf)))
        have h5 := used_mem (fs := s.files) hf
        have h6 := ok.room
        unfold used at h1
        exact ok.tick.putF ⟨by show _ ≤ ((s.files.getD i noFi).data ++ b).length; rw [List.length_append]; exact Nat.le_trans h4.1 (Nat.le_add_right _ _), by show ((s.files.getD i noFi).data ++ b).length ≤ _; rw [List.length_append]; omega⟩
theorem used_put {t : Fs} {x : Nm} {i : Nat} (ok : FsOk t) (hf : fnd t.now x = some i) (f : Fi) : used (putF t i f) + (t.files.getD i noFi).data.length = used t + f.data.length :=
  usedD_set ok.nowOk hf (ok.nowOk.lt _ (fnd_mem hf)) f
set_option maxHeartbeats 1000000 in
theorem sync_any {B : Nat} {X : FsX} {w : World} {bf : Nat} {s : Fs} (h : FsAt B X w bf s) (ok : FsOk s) (hs : s.steps ≤ 16777214) (x : Nm) (hx : x.length ≤ 4194304) :
    Calls Tryd.prog 43 #[.pointer (some ⟨bf, 0, none⟩), .string ⟨x.toArray⟩] w (FsP B X w bf (.int .i64 (syncS s x).2) (syncS s x).1) := by
  have H := Lib.hid h
  have OK := Lib.hid ok
  obtain ⟨r, hr⟩ : ∃ r, syncS s x = r := ⟨_, rfl⟩
  have HR := Lib.hid hr
  rw [hr]
  obtain ⟨_, _, c2, _⟩ := h.cells
  have hl := h.mn.look hx
  clear h ok hx hr
  cases hf : fnd s.now x with
  | none =>
    rw [fndV_none hf] at hl
    have HF := Lib.hid hf
    clear hf
    go_enter Tryd.func43, Tryd.ntmps43
    go_wp2_with fail
    go_ret
    have e : r = (s, 4) := by rw [← HR.out]; unfold syncS; rw [HF.out]
    rw [e]
    exact ⟨rfl, X, H.out, FsUp.refl _ _ _⟩
  | some i =>
    rw [fndV_some hf] at hl
    have HF := Lib.hid hf
    have HR2 : Hid (r = if s.more = 0 then (s, 190) else (putF (tick s) i ⟨(s.files.getD i noFi).data, (s.files.getD i noFi).data.length⟩, 0)) := Lib.hid (by rw [← HR.out]; unfold syncS; rw [hf])
    clear hf
    by_cases hm : s.more = 0
    · have HM := Lib.hid hm
      clear hm
      go_enter Tryd.func43, Tryd.ntmps43
      go_wp2_with fail
      refine (step_cut H.out HM.out).mono ?_
      rintro e w1 ⟨rfl, rfl⟩
      go_wp2_with fail
      go_ret
      rw [HR2.out, if_pos HM.out]
      exact ⟨rfl, X, H.out, FsUp.refl _ _ _⟩
    · have HM := Lib.hid hm
      clear hm
      go_enter Tryd.func43, Tryd.ntmps43
      go_wp2_with fail
      refine (step_ok H.out OK.out (by omega) HM.out).mono ?_
      rintro e w1 ⟨rfl, hh1, al1⟩
      have H1 := Lib.hid hh1
      have A1 := Lib.hid al1
      clear hh1 al1 c2 hl
      have HL : Hid (Live (tick s) i) := Lib.hid (OK.out.live (fnd_mem HF.out))
      have HFI := Lib.hid (H1.out.fil i HL.out)
      obtain ⟨sa, sc, hdv⟩ := HFI.out.shape
      obtain ⟨k0, k1⟩ := HFI.out.cells
      rw [hdv] at k0
      have HDV := Lib.hid hdv
      have f1 : w1.frozen? ⟨X.fb i, 1, none⟩ = false := by unfold World.frozen?; rw [HFI.out.blk]; simp
      obtain ⟨m, hmm⟩ : ∃ m, ((tick s).files.getD i noFi).data.length = m := ⟨_, rfl⟩
      rw [hmm] at k0
      have HMM := Lib.hid hmm
      clear hdv hmm
      go_wp2_with fail
      go_ret
      rw [HR2.out, if_neg HM.out]
      have hne : X.fb i ≠ bf := fun e => by have := HFI.out.tb; rw [e, H1.out.tf] at this; cases this
      have hset : ∀ k, k ≠ X.fb i → (w1.setCell ⟨X.fb i, 1, none⟩ (.int .i64 (m : Int))).heap[k]? = w1.heap[k]? := fun k hk => Below.heap_setCell w1 _ _ k hk
      have hu : used (putF (tick s) i ⟨(s.files.getD i noFi).data, (s.files.getD i noFi).data.length⟩) = used (tick s) := by
        have h1 : used (putF (tick s) i ⟨(s.files.getD i noFi).data, (s.files.getD i noFi).data.length⟩) + (s.files.getD i noFi).data.length = used (tick s) + (s.files.getD i noFi).data.length := used_put OK.out.tick HF.out _
        omega
      have hB := H1.out.dom (X.fb i) (by rw [HFI.out.tb]; exact fun c => by cases c)
      obtain ⟨X', q1, _, q3⟩ := FsAt.putFile (wF := w1.setCell ⟨X.fb i, 1, none⟩ (.int .i64 (m : Int))) (f := ⟨(s.files.getD i noFi).data, (s.files.getD i noFi).data.length⟩) (v' := X.dv i) H1.out HL.out (OK.out.live_lt HL.out) (by simp)
        (fun k hk _ h2 _ => hset k (fun e => h2 (by rw [e]; exact HFI.out.tb)))
        (by rw [hset bf (fun e => hne e.symm), H1.out.blk]; unfold fsRow; rw [hu]; rfl)
        (by rw [cells_set HFI.out.blk _, ← HMM.out]; rfl)
        (HFI.out.row.kept (by simp) (fun k e => hset k (fun e2 => by have h1 := HFI.out.tv k e; rw [e2, HFI.out.tb] at h1; cases h1)))
        (fun k e => Or.inl e)
      refine ⟨rfl, X', q1, ⟨(A1.out.below H.out.bfB.1 H.out.baseB).trans ((Below.refl B w1).setCell hB.1 _), fun k hk ht => ?_, fun k hk => ?_⟩⟩
      · rw [hset k (fun e => by rw [e, HFI.out.tb] at ht; cases ht), A1.out.block k hk (fun e => by rw [e, H.out.tf] at ht; cases ht)]
      · rcases q3 k hk with h1 | h1
        · exact Or.inl h1
        · right; have := A1.out.size; omega
end Go.Proofs.YtgknihcpmpfocaaDoor
namespace Go.Proofs.YtgknihcpmpfocaaDoor
open Go.RowKit Go.Maps
set_option maxRecDepth 100000 in
set_option maxHeartbeats 1000000 in
theorem clone_any (S : Nat → Prop) (v : Value) (l : List UInt8) (w : World) (hl : l.length ≤ 4194304) (hS : ∀ k, S k → k < w.heap.size) (hb : BytesC S w v l) :
    Calls Tryd.prog 28 #[v] w fun e w' => ∃ v', e = .returned v' ∧ Own w' w.heap.size v' l ∧ Below w.heap.size w w' := by
  obtain ⟨i0, hi, hz0, hz1, hz2⟩ := info_parts Tryd.info5
  have hb2 : BytesC S (w.alloc (.cells #[] 5)) v l := hb.kept (fun k hk => ⟨hk, Below.heap_alloc w _ k (hS k hk)⟩)
  have hq := run_eql_nil
  rcases hb with ⟨rfl, rfl⟩ | ⟨a, cap, rfl, hcap, hcm, hSa, hcells⟩
  · clear hb2
    go_enter Tryd.func28, Tryd.ntmps28
    go_wp2_with fail
    go_ret
    exact ⟨_, rfl, own_nil _ _, Below.refl _ _⟩
  · have HB := Lib.hid hb2
    have HO := Lib.hid (own_empty w)
    clear hcells hb2
    go_enter Tryd.func28, Tryd.ntmps28
    go_wp2_with (at_builtin; refine wpList_own_src _ rfl _ _ 22 22 rfl w.heap.size 5 i0 (.int .u8 0) 1 1 Tryd.underlying22 hi hz0 hz1 hz2 rfl (by decide) _ _ _ rfl HO.out _ _ _ rfl HB.out.srcC ?c3 ?c4 ?c5 ?_)
    case c3 => simp; unfold maxLen; omega
    case c4 => simp; omega
    case c5 => simp
    intro v2 w2 hown2 hg2
    have hown : Own w2 w.heap.size v2 l := own_more' (l := []) (by simp) hown2
    have hgr := ((Grew.alloc w (.slice (some ⟨w.heap.size, 0, none⟩) 0 0) _).trans hg2)
    have hbl : Below w.heap.size w w2 := (Below.refl _ w).grown hgr.gb (Nat.le_refl _) (fun k hk => by simp [Value.ownBlock] at hk; omega)
    have HV := Lib.hid hown
    have HBL := Lib.hid hbl
    clear hown hgr hbl hown2 hg2
    go_wp2_with fail
    go_ret
    exact ⟨v2, rfl, HV.out, HBL.out⟩
set_option maxRecDepth 100000 in
set_option maxHeartbeats 2000000 in
theorem cut_any {B : Nat} {X : FsX} {w : World} {bf : Nat} {s : Fs} (h : FsAt B X w bf s) (ok : FsOk s) (hs : s.steps ≤ 16777214) (x : Nm) (hx : x.length ≤ 4194304) (n : Int) :
    Calls Tryd.prog 37 #[.pointer (some ⟨bf, 0, none⟩), .string ⟨x.toArray⟩, .int .i64 n] w (FsP B X w bf (.int .i64 (cutS s x n).2) (cutS s x n).1) := by
  have H := Lib.hid h
  have OK := Lib.hid ok
  obtain ⟨r, hr⟩ : ∃ r, cutS s x n = r := ⟨_, rfl⟩
  have HR := Lib.hid hr
  rw [hr]
  obtain ⟨_, _, c2, _⟩ := h.cells
  have hl := h.mn.look hx
  clear h ok hx hr
  cases hf : fnd s.now x with
  | none =>
    rw [fndV_none hf] at hl
    have HF := Lib.hid hf
    clear hf
    go_enter Tryd.func37, Tryd.ntmps37
    go_wp2_with fail
    go_ret
    have e : r = (s, 4) := by rw [← HR.out]; unfold cutS; rw [HF.out]
    rw [e]
    exact ⟨rfl, X, H.out, FsUp.refl _ _ _⟩
  | some i =>
    rw [fndV_some hf] at hl
    have HF := Lib.hid hf
    have HR2 : Hid (r = if n < 0 ∨ ((s.files.getD i noFi).data.length : Int) < n then (s, 1) else if s.more = 0 then (s, 190) else (putF (tick s) i ⟨(s.files.getD i noFi).data.take n.toNat, n.toNat⟩, 0)) := Lib.hid (by rw [← HR.out]; unfold cutS; rw [hf])
    clear hf
    have HL : Hid (Live s i) := Lib.hid (OK.out.live (fnd_mem HF.out))
    have HFI := Lib.hid (H.out.fil i HL.out)
    obtain ⟨sa, sc, hdv⟩ := HFI.out.shape
    obtain ⟨k0, _⟩ := HFI.out.cells
    rw [hdv] at k0
    have HML : Hid ((s.files.getD i noFi).data.length ≤ 4194304) := Lib.hid (OK.out.dat _ (getD_mem (OK.out.nowOk.lt _ (fnd_mem HF.out)))).2
    obtain ⟨m, hmm⟩ : ∃ m, (s.files.getD i noFi).data.length = m := ⟨_, rfl⟩
    rw [hmm] at k0 HML HR2 hdv
    have HDV := Lib.hid hdv
    have HMM := Lib.hid hmm
    have hml := HML.out
    clear hdv hmm
    by_cases hn : n < 0 ∨ (m : Int) < n
    · have HN := Lib.hid hn
      by_cases h1 : n < 0
      · have g1 : decide (n < 0) = true := decide_eq_true h1
        go_enter Tryd.func37, Tryd.ntmps37
        go_wp2_with fail
        go_ret
        rw [HR2.out, if_pos HN.out]
        exact ⟨rfl, X, H.out, FsUp.refl _ _ _⟩
      · have g1 : decide (n < 0) = false := decide_eq_false h1
        have g2 : decide (n > (m : Int)) = true := decide_eq_true (by omega)
        clear hn
        go_enter Tryd.func37, Tryd.ntmps37
        go_wp2_with fail
        go_ret
        rw [HR2.out, if_pos HN.out]
        exact ⟨rfl, X, H.out, FsUp.refl _ _ _⟩
    · obtain ⟨k, rfl⟩ : ∃ k : Nat, n = (k : Int) := ⟨n.toNat, by omega⟩
      have hkm : k ≤ m := by omega
      have HN := Lib.hid hn
      have g1 : decide ((k : Int) < 0) = false := decide_eq_false (by omega)
      have g2 : decide (m < k) = false := decide_eq_false (by omega)
      have g3 : decide ((k : Int) > (m : Int)) = false := decide_eq_false (by omega)
      clear hn
      by_cases hm : s.more = 0
      · have HM := Lib.hid hm
        clear hm
        go_enter Tryd.func37, Tryd.ntmps37
        go_wp2_with fail
        refine (step_cut H.out HM.out).mono ?_
        rintro e w1 ⟨rfl, rfl⟩
        go_wp2_with fail
        go_ret
        rw [HR2.out, if_neg HN.out, if_pos HM.out]
        exact ⟨rfl, X, H.out, FsUp.refl _ _ _⟩
      · have HM := Lib.hid hm
        clear hm
        go_enter Tryd.func37, Tryd.ntmps37
        go_wp2_with fail
        refine (step_ok H.out OK.out (by omega) HM.out).mono ?_
        rintro e w1 ⟨rfl, hh1, al1⟩
        have H1 := Lib.hid hh1
        have A1 := Lib.hid al1
        clear hh1 al1 c2 hl k0 g1 g2 g3
        have HFI1 := Lib.hid (H1.out.fil i HL.out)
        have hu := H1.out.used_le OK.out.tick (by show s.steps + 1 ≤ _; omega)
        have hmu : m ≤ used (tick s) := by rw [← HMM.out]; exact used_mem HF.out
        obtain ⟨u, hue⟩ : ∃ u, used (tick s) = u := ⟨_, rfl⟩
        have HUE := Lib.hid hue
        rw [hue] at hu hmu
        clear hue
        go_wp2_with fail
        have hq : w1.drewN 1 = w1.drew := rfl
        have hd := H1.out.drew 1
        rw [hq] at hd
        obtain ⟨_, c1, _⟩ := hd.cells
        rw [HUE.out] at c1
        have f1 := hd.free 1
        have k0 : w1.drew.cell? ⟨X.fb i, 0, none⟩ = some (X.dv i) := HFI1.out.cells.1
        rw [HDV.out] at k0
        clear hd hq
        have hw1 : IntKind.i64.wrap ((m : Int) - (k : Int)) = (m : Int) - (k : Int) := IntWalk.i64_in _ (by omega)
        have hw2 : IntKind.i64.wrap ((u : Int) - ((m : Int) - (k : Int))) = (u : Int) - ((m : Int) - (k : Int)) := IntWalk.i64_in _ (by omega)
        go_still_tail 14, (by kernel_rfl)
        change wpList _ _ _ _ _ w1.drew
        have EB : Hid (∀ q : Nat, w1.drew.heap[q]? = w1.heap[q]?) := Lib.hid (fun _ => rfl)
        have A2 : Hid (Alone bf w1 w1.drew) := Lib.hid (Alone.drewN bf w1 1)
        generalize w1.drew = w2 at *
        go_upto_region 10 with fail
        clear c1 f1 k0 hw1 hw2
        have hset : ∀ q, q ≠ bf → (w2.setCell ⟨bf, 1, none⟩ (.int .i64 ((u : Int) - ((m : Int) - (k : Int))))).heap[q]? = w1.heap[q]? := fun q hq => (Below.heap_setCell w2 _ _ q hq).trans (EB.out q)
        have HSET := Lib.hid hset
        have HBF : Hid ((w2.setCell ⟨bf, 1, none⟩ (.int .i64 ((u : Int) - ((m : Int) - (k : Int))))).heap[bf]? = _) := Lib.hid (cells_set ((EB.out bf).trans H1.out.blk) _)
        have A3 := Lib.hid ((A2.out).trans (Alone.set bf 1 w2 (.int .i64 ((u : Int) - ((m : Int) - (k : Int))))))
        clear hset EB A2
        generalize w2.setCell ⟨bf, 1, none⟩ (.int .i64 ((u : Int) - ((m : Int) - (k : Int)))) = w3 at *
        have hne : X.fb i ≠ bf := fun e => by have := HFI1.out.tb; rw [e, H1.out.tf] at this; cases this
        have HNE := Lib.hid hne
        have HCUT := Lib.hid (fcut_any (B := B) (n := k) (l := (s.files.getD i noFi).data) ((HSET.out _ hne).trans HFI1.out.blk) (HFI1.out.row.kept A3.out.size (fun q e => HSET.out q (fun e2 => by have h1 := HFI1.out.tv q e; rw [e2, H1.out.tf] at h1; cases h1))) (by rw [HMM.out]; exact hkm) (by rw [HMM.out]; exact hml) (fun q e e2 => by have h1 := HFI1.out.tv q e; rw [e2, HFI1.out.tb] at h1; cases h1))
        clear hne
        go_wp2_with fail
        refine HCUT.out.mono ?_
        rintro e w4 ⟨rfl, v4, hb4, hr4, ho4, al4⟩
        have B4 := Lib.hid hb4
        have R4 := Lib.hid hr4
        have O4 := Lib.hid ho4
        have A4 := Lib.hid al4
        clear hb4 hr4 ho4 al4 HCUT
        go_wp2_with fail
        go_ret
        rw [HR2.out, if_neg HN.out, if_neg HM.out]
        have hkt : ((k : Int)).toNat = k := by omega
        rw [hkt]
        have hus : used (putF (tick s) i ⟨(s.files.getD i noFi).data.take k, k⟩) + m = u + k := by
          have h1 := used_put OK.out.tick HF.out ⟨(s.files.getD i noFi).data.take k, k⟩
          have h2 : ((s.files.getD i noFi).data.take k).length = k := by rw [List.length_take, HMM.out]; omega
          have h3 : used (putF (tick s) i ⟨(s.files.getD i noFi).data.take k, k⟩) + (s.files.getD i noFi).data.length = used (tick s) + ((s.files.getD i noFi).data.take k).length := h1
          rw [h2, HMM.out, HUE.out] at h3
          exact h3
        have hB := H1.out.dom (X.fb i) (by rw [HFI1.out.tb]; exact fun c => by cases c)
        have hz3 := A3.out.size
        have hz4 := A4.out.size
        have hz1 := A1.out.size
        obtain ⟨X', q1, _, q3⟩ := FsAt.putFile (wF := w4) (f := ⟨(s.files.getD i noFi).data.take k, k⟩) (v' := v4) H1.out HL.out (OK.out.live_lt HL.out) (by omega)
          (fun q hq h1 h2 _ => (A4.out.block q (by omega) (fun e => h2 (by rw [e]; exact HFI1.out.tb))).trans (HSET.out q (fun e => h1 (by rw [e]; exact H1.out.tf))))
          (by
            rw [A4.out.block bf (by have := H1.out.bfB.2; omega) (fun e => HNE.out e.symm), HBF.out]
            have e : (used (putF (tick s) i ⟨(s.files.getD i noFi).data.take k, k⟩) : Int) = (u : Int) - ((m : Int) - (k : Int)) := by omega
            unfold fsRow
            rw [e]; rfl)
          B4.out R4.out (fun q e => Or.inl (O4.out q e))
        refine ⟨rfl, X', q1, ⟨((A1.out.below H.out.bfB.1 H.out.baseB).trans (A3.out.below H.out.bfB.1 (by have := H.out.baseB; omega))).trans (A4.out.below hB.1 (by have := H.out.baseB; omega)), fun q hq ht => ?_, fun q hq => ?_⟩⟩
        · have h1 : q ≠ bf := fun e => by rw [e, H.out.tf] at ht; cases ht
          rw [A4.out.block q (by omega) (fun e => by rw [e, HFI1.out.tb] at ht; cases ht), HSET.out q h1, A1.out.block q hq h1]
        · rcases q3 q hq with h1 | h1
          · exact Or.inl h1
          · right; omega
end Go.Proofs.YtgknihcpmpfocaaDoor
namespace Go.Proofs.YtgknihcpmpfocaaDoor
open Go.RowKit Go.Maps
theorem RowM.shapeN {w : World} {B : Nat} {v : Value} {xs : List Value} (h : RowM w B v xs) : ∃ a n c, v = .slice a n c := by
  obtain ⟨a, c, e⟩ := h.shape
  exact ⟨a, _, c, e⟩
set_option maxRecDepth 100000 in
set_option maxHeartbeats 2000000 in
theorem append_any {B : Nat} {X : FsX} {w : World} {bf : Nat} {s : Fs} (h : FsAt B X w bf s) (ok : FsOk s) (hs : s.steps ≤ 16777214) (x : Nm) (hx : x.length ≤ 4194304) (S : Nat → Prop) (vb : Value) (l : List UInt8) (hb : BytesC S w vb l) (hS : ∀ k, S k → k < w.heap.size ∧ X.T k = .no) (hlen : l.length ≤ 1073741824) :
    Calls Tryd.prog 34 #[.pointer (some ⟨bf, 0, none⟩), .string ⟨x.toArray⟩, vb] w (FsP B X w bf (.int .i64 (appendS s x l).2) (appendS s x l).1) := by
  obtain ⟨i0, hi, hz0, hz1, hz2⟩ := info_parts Tryd.info5
  obtain ⟨va, vc, rfl⟩ := hb.shape
  have H := Lib.hid h
  have OK := Lib.hid ok
  have HBS := Lib.hid hb
  have HSS := Lib.hid hS
  obtain ⟨r, hr⟩ : ∃ r, appendS s x l = r := ⟨_, rfl⟩
  have HR := Lib.hid hr
  rw [hr]
  obtain ⟨_, _, c2, _⟩ := h.cells
  have hl := h.mn.look hx
  clear h ok hx hr hb hS
  cases hf : fnd s.now x with
  | none =>
    rw [fndV_none hf] at hl
    have HF := Lib.hid hf
    clear hf
    go_enter Tryd.func34, Tryd.ntmps34
    go_wp2_with fail
    go_ret
    have e : r = (s, 4) := by rw [← HR.out]; unfold appendS; rw [HF.out]
    rw [e]
    exact ⟨rfl, X, H.out, FsUp.refl _ _ _⟩
  | some i =>
    rw [fndV_some hf] at hl
    have HF := Lib.hid hf
    have HR2 : Hid (r = if (s.room : Int) - (used s : Int) < (l.length : Int) then (s, 3) else if s.more = 0 then (s, 190) else (putF (tick s) i ⟨(s.files.getD i noFi).data ++ l, (s.files.getD i noFi).dur⟩, 0)) := Lib.hid (by rw [← HR.out]; unfold appendS; rw [hf])
    clear hf
    have HL : Hid (Live s i) := Lib.hid (OK.out.live (fnd_mem HF.out))
    have hu := H.out.used_le OK.out (by omega)
    have hro := OK.out.room
    have HLF := Lib.hid (left_any H.out OK.out (by omega))
    obtain ⟨u, hue⟩ : ∃ u, used s = u := ⟨_, rfl⟩
    obtain ⟨ro, hroe⟩ : ∃ u, s.room = u := ⟨_, rfl⟩
    have HUE := Lib.hid hue
    rw [hue] at hu HR2 HLF
    rw [hroe] at hro HR2 HLF
    obtain ⟨ll, hll⟩ : ∃ n, l.length = n := ⟨_, rfl⟩
    have HLL := Lib.hid hll
    rw [hll] at HR2 hlen ⊢
    rw [hll] at HBS
    clear hue hroe hll
    by_cases hfull : (ro : Int) - (u : Int) < (ll : Int)
    · have g1 : decide ((ll : Int) > (ro : Int) - (u : Int)) = true := decide_eq_true hfull
      have HFU := Lib.hid hfull
      clear hfull
      go_enter Tryd.func34, Tryd.ntmps34
      go_wp2_with fail
      refine HLF.out.mono ?_
      rintro e w1 ⟨n1, rfl, rfl⟩
      go_wp2_with fail
      go_ret
      rw [HR2.out, if_pos HFU.out]
      exact ⟨rfl, X, H.out.drew n1, FsUp.of X (drewn _ w n1) H.out.baseB⟩
    · have g1 : decide ((ll : Int) > (ro : Int) - (u : Int)) = false := decide_eq_false hfull
      have HFU := Lib.hid hfull
      have hsum : u + ll ≤ ro := by omega
      clear hfull
      go_enter Tryd.func34, Tryd.ntmps34
      go_wp2_with fail
      refine HLF.out.mono ?_
      rintro e w0 ⟨n1, rfl, hw0⟩
      have H0 : Hid (FsAt B X w0 bf s) := Lib.hid (by rw [hw0]; exact H.out.drew n1)
      have B0 : Hid (Below w.heap.size w w0) := Lib.hid (by rw [hw0]; exact drewn _ w n1)
      have E0 : Hid (w0.heap = w.heap) := Lib.hid (by rw [hw0]; rfl)
      clear hw0 c2 hl
      go_wp2_with fail
      by_cases hm : s.more = 0
      · refine (step_cut H0.out hm).mono ?_
        rintro e w1 ⟨rfl, rfl⟩
        have HM := Lib.hid hm
        clear hm
        go_wp2_with fail
        go_ret
        rw [HR2.out, if_neg (by have := HFU.out; omega), if_pos HM.out]
        exact ⟨rfl, X, H0.out, FsUp.of X B0.out H.out.baseB⟩
      · refine (step_ok H0.out OK.out (by omega) hm).mono ?_
        rintro e w1 ⟨rfl, hh1, al1⟩
        have HM := Lib.hid hm
        have H1 := Lib.hid hh1
        have A1 := Lib.hid al1
        clear hm hh1 al1
        have HFI := Lib.hid (H1.out.fil i HL.out)
        have hfl : ∀ q, S q → q ≠ bf := fun q hq e => by have := (HSS.out q hq).2; rw [e, H.out.tf] at this; cases this
        have HSRC : Hid (BytesC S w1 (.slice va ll vc) l) := Lib.hid (HBS.out.kept (fun q hq => ⟨hq, by rw [A1.out.block q (by rw [E0.out]; exact (HSS.out q hq).1) (hfl q hq), E0.out]⟩))
        have SRC : Hid (Src Tryd.prog 1 22 (.slice va ll vc) ll (bv l) w1) := Lib.hid (by have h := HSRC.out.srcC; rw [HLL.out] at h; exact h)
        have ROW := Lib.hid HFI.out.row
        obtain ⟨fa, fc, hdv⟩ := HFI.out.shape
        have k0 := HFI.out.cells.1
        have HML : Hid ((s.files.getD i noFi).data.length ≤ 4194304) := Lib.hid (OK.out.dat _ (getD_mem (OK.out.nowOk.lt _ (fnd_mem HF.out)))).2
        obtain ⟨m, hmm⟩ : ∃ m, (s.files.getD i noFi).data.length = m := ⟨_, rfl⟩
        have hmm2 : ((tick s).files.getD i noFi).data.length = m := hmm
        rw [hmm2] at hdv
        rw [hdv] at k0 ROW
        have HDV := Lib.hid hdv
        have HMM := Lib.hid hmm
        have hml : m ≤ 4194304 := by rw [← hmm]; exact HML.out
        have hbl : (bv ((tick s).files.getD i noFi).data).length = m := by rw [bv_len]; exact hmm
        have HBL := Lib.hid hbl
        have hB0 : B ≤ w1.heap.size := by have := H.out.baseB; have := B0.out.size; have := A1.out.size; omega
        have HB0 := Lib.hid hB0
        clear hdv hmm hmm2 hfl hbl hB0
        go_wp2_with (at_builtin; refine wpList_markAny _ rfl _ _ 22 22 rfl B 5 i0 (.int .u8 0) 1 Tryd.underlying22 hi hz0 hz1 hz2 rfl _ _ rfl ROW.out _ _ _ rfl SRC.out (by rw [HBL.out]; unfold maxLen; omega) (by rw [HBL.out]; omega) HB0.out ?_; intro v2 w2 row2 gr2; obtain ⟨xa, xn, xc, hv2⟩ := row2.shapeN; subst hv2; have R2 := Lib.hid row2; have G2 := Lib.hid gr2; clear row2 gr2; have hz12 := G2.out.size; have q0 : w2.heap[X.fb i]? = _ := (G2.out.gb.block (X.fb i) (H1.out.dom _ (by rw [HFI.out.tb]; exact fun c => by cases c)).2 (fun e => by rw [← HDV.out] at e; have h1 := HFI.out.tv _ e.symm; rw [HFI.out.tb] at h1; cases h1)).trans HFI.out.blk; have q1 : w2.heap[bf]? = _ := (G2.out.gb.block bf H1.out.bfB.2 (fun e => by rw [← HDV.out] at e; have h1 := HFI.out.tv _ e.symm; rw [H1.out.tf] at h1; cases h1)).trans H1.out.blk; have Q0 := Lib.hid q0; have Q1 := Lib.hid q1; have y0 : w2.cell? ⟨X.fb i, 0, none⟩ = some (X.dv i) := (cell_of_row _ _ _ _ _ _ q0).trans rfl; have y1 : w2.cell? ⟨bf, 1, none⟩ = some (.int .i64 (used (tick s) : Int)) := (cell_of_row _ _ _ _ _ _ q1).trans rfl; have yf0 : w2.frozen? ⟨X.fb i, 0, none⟩ = false := frozen_box q0 0; have yf1 : w2.frozen? ⟨bf, 1, none⟩ = false := frozen_box q1 1; have yu : used (tick s) = u := HUE.out; have hne : X.fb i ≠ bf := (fun e => by have := HFI.out.tb; rw [e, H1.out.tf] at this; cases this); have HNE := Lib.hid hne; rw [yu] at y1; clear q0 q1 yu)
        go_ret
        rw [HR2.out, if_neg (by have := HFU.out; omega), if_neg HM.out]
        obtain ⟨v2, hv2⟩ : ∃ v, Value.slice xa xn xc = v := ⟨_, rfl⟩
        rw [hv2] at R2 G2 ⊢
        clear hv2
        have hset : ∀ q, q ≠ bf → q ≠ X.fb i → ((w2.setCell ⟨X.fb i, 0, none⟩ v2).setCell ⟨bf, 1, none⟩ (.int .i64 ((u : Int) + (ll : Int)))).heap[q]? = w2.heap[q]? := fun q h1 h2 => by
          rw [Below.heap_setCell _ _ _ q h1, Below.heap_setCell _ _ _ q h2]
        have hne' := HNE.out
        have hsz : ((w2.setCell ⟨X.fb i, 0, none⟩ v2).setCell ⟨bf, 1, none⟩ (.int .i64 ((u : Int) + (ll : Int)))).heap.size = w2.heap.size := by simp
        have hbF : ((w2.setCell ⟨X.fb i, 0, none⟩ v2).setCell ⟨bf, 1, none⟩ (.int .i64 ((u : Int) + (ll : Int)))).heap[bf]? = some (.cells (fsRow X (putF (tick s) i ⟨(s.files.getD i noFi).data ++ l, (s.files.getD i noFi).dur⟩)) 70 (0, 0)) := by
          have h1 := used_put OK.out.tick HF.out ⟨(s.files.getD i noFi).data ++ l, (s.files.getD i noFi).dur⟩
          have h2 : used (putF (tick s) i ⟨(s.files.getD i noFi).data ++ l, (s.files.getD i noFi).dur⟩) + (s.files.getD i noFi).data.length = used s + ((s.files.getD i noFi).data ++ l).length := h1
          rw [List.length_append, HUE.out, HLL.out] at h2
          have e : (used (putF (tick s) i ⟨(s.files.getD i noFi).data ++ l, (s.files.getD i noFi).dur⟩) : Int) = (u : Int) + (ll : Int) := by omega
          rw [cells_set ((Below.heap_setCell w2 _ v2 bf (fun e => hne' e.symm)).trans Q1.out) _]
          unfold fsRow
          rw [e]; rfl
        have hbf2 : ((w2.setCell ⟨X.fb i, 0, none⟩ v2).setCell ⟨bf, 1, none⟩ (.int .i64 ((u : Int) + (ll : Int)))).heap[X.fb i]? = some (.cells #[v2, .int .i64 ((s.files.getD i noFi).dur : Int)] 84 (0, 0)) := by
          rw [Below.heap_setCell _ _ _ _ hne', cells_set Q0.out v2]; rfl
        have hbel : Below B w1 ((w2.setCell ⟨X.fb i, 0, none⟩ v2).setCell ⟨bf, 1, none⟩ (.int .i64 ((u : Int) + (ll : Int)))) := by
          have hBf := (H1.out.dom (X.fb i) (by rw [HFI.out.tb]; exact fun c => by cases c)).1
          refine ((((Below.refl B w1).grown G2.out.gb HB0.out (fun q hq => ?_)).setCell hBf _).setCell H1.out.bfB.1 _)
          rw [← HDV.out] at hq
          exact (H1.out.dom q (by rw [HFI.out.tv q hq]; exact fun c => by cases c)).1
        generalize (w2.setCell ⟨X.fb i, 0, none⟩ v2).setCell ⟨bf, 1, none⟩ (.int .i64 ((u : Int) + (ll : Int))) = w4 at *
        have hzw := B0.out.size
        have hz01 := A1.out.size
        have hh0 := HB0.out
        have hown : ∀ q, v2.ownBlock = some q → (X.dv i).ownBlock = some q ∨ (w1.heap.size ≤ q ∧ q < w4.heap.size ∧ B ≤ q) := fun q hq => by
          rcases G2.out.own q hq with h1 | h1
          · left; rw [HDV.out]; exact h1
          · right
            have hq2 : q < w2.heap.size := by
              rcases R2.out with ⟨h3, h4⟩ | ⟨g, cap, h4, _, h5, _⟩
              · rw [h4] at hq; cases hq
              · rw [h4] at hq
                have : q = g := by simpa [Value.ownBlock] using hq.symm
                omega
            exact ⟨h1, by omega, by omega⟩
        have hown2 : ∀ q, v2.ownBlock = some q → q ≠ bf ∧ q ≠ X.fb i := fun q hq => by
          rcases hown q hq with h1 | h1
          · have h2 := HFI.out.tv q h1
            exact ⟨fun e => (by rw [e, H1.out.tf] at h2; cases h2), fun e => (by rw [e, HFI.out.tb] at h2; cases h2)⟩
          · have h2 := H1.out.bfB.2
            have h3 := (H1.out.dom (X.fb i) (by rw [HFI.out.tb]; exact fun c => by cases c)).2
            exact ⟨by omega, by omega⟩
        have hkk : ∀ q, q < w1.heap.size → q ≠ bf → q ≠ X.fb i → (X.dv i).ownBlock ≠ some q → w4.heap[q]? = w1.heap[q]? := fun q hq h1 h2 h3 => by
          rw [hset q h1 h2]
          exact G2.out.gb.block q hq (fun e => h3 (by rw [HDV.out]; exact e.symm))
        obtain ⟨X', q1, _, q3⟩ := FsAt.putFile (wF := w4) (f := ⟨(s.files.getD i noFi).data ++ l, (s.files.getD i noFi).dur⟩) (v' := v2) H1.out HL.out (OK.out.live_lt HL.out) (by omega)
          (fun q hq h1 h2 h3 => hkk q hq (fun e => h1 (by rw [e]; exact H1.out.tf)) (fun e => h2 (by rw [e]; exact HFI.out.tb)) (fun e => h3 (HFI.out.tv q e)))
          hbF hbf2
          (by
            have h1 := R2.out
            rw [← bv_append] at h1
            exact h1.kept (by omega) (fun q e => hset q (hown2 q e).1 (hown2 q e).2))
          hown
        refine ⟨rfl, X', q1, ⟨?_, fun q hq ht => ?_, fun q hq => ?_⟩⟩
        · exact ((B0.out.mono H.out.baseB).trans (A1.out.below H.out.bfB.1 (by have := H.out.baseB; omega))).trans hbel
        · have h1 : q ≠ bf := fun e => by rw [e, H.out.tf] at ht; cases ht
          rw [hkk q (by omega) h1 (fun e => by rw [e, HFI.out.tb] at ht; cases ht) (fun e => by rw [HFI.out.tv q e] at ht; cases ht), A1.out.block q (by omega) h1, E0.out]
        · rcases q3 q hq with h1 | h1
          · exact Or.inl h1
          · right; omega
def ReadP (w : World) (l : List UInt8) (c : Int) (e : Ending) (w' : World) : Prop := ∃ v, e = .returned (.tuple #[v, .int .i64 c]) ∧ Own w' w.heap.size v l ∧ Below w.heap.size w w'
def readS (s : Fs) (x : Nm) : List UInt8 × Int :=
  match fnd s.now x with
  | none => ([], 4)
  | some i => ((s.files.getD i noFi).data, 0)
theorem read_any {B : Nat} {X : FsX} {w : World} {bf : Nat} {s : Fs} (h : FsAt B X w bf s) (ok : FsOk s) (x : Nm) (hx : x.length ≤ 4194304) :
    Calls Tryd.prog 19 #[.pointer (some ⟨bf, 0, none⟩), .string ⟨x.toArray⟩] w (ReadP w (readS s x).1 (readS s x).2) := by
  obtain ⟨_, _, c2, _⟩ := h.cells
  have hl := h.mn.look hx
  unfold readS
  cases hf : fnd s.now x with
  | none =>
    rw [fndV_none hf] at hl
    clear h ok hf hx
    go_enter Tryd.func19, Tryd.ntmps19
    go_wp2_with fail
    go_ret2
    exact ⟨_, rfl, own_nil _ _, Below.refl _ _⟩
  | some i =>
    rw [fndV_some hf] at hl
    show Calls _ _ _ _ (ReadP w (s.files.getD i noFi).data 0)
    have hfi := h.fil i (ok.live (fnd_mem hf))
    have hml : (s.files.getD i noFi).data.length ≤ 4194304 := (ok.dat _ (getD_mem (ok.nowOk.lt _ (fnd_mem hf)))).2
    have HCL := Lib.hid (clone_any _ (X.dv i) (s.files.getD i noFi).data w hml (fun k hk => hk.2) hfi.row.bytes)
    have k0 := hfi.cells.1
    clear h ok hf hx hfi hml
    go_enter Tryd.func19, Tryd.ntmps19
    go_wp2_with fail
    refine HCL.out.mono ?_
    rintro e w1 ⟨v1, rfl, ho, hb⟩
    have HO := Lib.hid ho
    have HB := Lib.hid hb
    clear ho hb HCL
    go_wp2_with fail
    go_ret2
    exact ⟨_, rfl, HO.out, HB.out⟩
end Go.Proofs.YtgknihcpmpfocaaDoor
