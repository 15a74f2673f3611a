/- A file's bytes: made durable, cut off, appended to. -/
import Derived.Test.YtjefcalndfcmdaaGreatDoorVfG
import Derived.RegionTactic
namespace Go.Proofs.YtjefcalndfcmdaaGreatDoor
open Go.RowKit Go.Maps
theorem run_mark0 {P : Program} (w : World) (base : Nat) (t tx ty e : TypeId) (i : TypeInfo) (ht : P.underlying t = some (.slice e)) (hi : P.info? e = some i) (hsize : i.size = 1)
    (v : Value) (xs : List Value) (hown : RowM w base v xs) (x : Value) (hs : Src P 1 tx x 0 [] w) : (Builtin.append_ #[t, tx] ty #[v, x]).run P w = .ok v w := by
  have hc := hs.cells
  have hlen0 := hs.len
  rcases hown with ⟨rfl, rfl⟩ | ⟨g, cap, rfl, _, _, hnc, _, _, _⟩
  · rcases hs.kind with ⟨e', hk⟩ | hk <;> simp [Builtin.append_, run_underlying ht, run_underlying hk, sizeOf, typeInfo, hi, hsize, hlen0, hc]
  · rcases hs.kind with ⟨e', hk⟩ | hk <;> simp [Builtin.append_, run_underlying ht, run_underlying hk, sizeOf, typeInfo, hi, hsize, hlen0, hc, hnc, storeCells]
theorem wpList_markAny {P : Program} {ops : Array Oper} {rest : List Oper} {o : Oper} {a : Act} {Q : Exit → Act → World → Prop} (w : World) (hgd : o.guard = none) (s x : Operand) (t tx : TypeId)
    (ho : o.op = .call { callee := .builtin .append, args := #[s, x], argTypes := #[t, tx] })
    (base : Nat) (e : TypeId) (i : TypeInfo) (z : Value) (bytes : Nat) (ht : P.underlying t = some (.slice e)) (hi : P.info? e = some i) (hz : i.zero = some z)
    (hsize : i.size = 1) (hby : i.bytes = bytes) (hzs : z.cells.size = 1)
    (v : Value) (xs : List Value) (hv : a.eval s = v) (hown : RowM w base v xs)
    (xv : Value) (m : Nat) (news : List Value) (hx : a.eval x = xv) (hs : Src P 1 tx xv m news w)
    (h63 : xs.length + m ≤ maxLen) (hbytes : (xs.length + m) * bytes ≤ 140737488355328) (hbase : base ≤ w.heap.size)
    (h : ∀ v' w', RowM w' base v' (xs ++ news) → Grew w w' v v' → wpList P ops Q rest (a.put o.dst v') w') : wpList P ops Q (o :: rest) a w := by
  by_cases hm : 0 < m
  · exact wpList_mark w hgd s x t tx ho base e i z bytes ht hi hz hsize hby hzs v xs hv hown xv m news hx hs hm h63 hbytes hbase h
  · obtain rfl : m = 0 := by omega
    have hn : news = [] := List.eq_nil_of_length_eq_zero (by have := hs.newsLen; simpa using this)
    subst hn
    refine wpList_plain hgd fun _ hK => ?_
    have hr := run_mark0 (P := P) w base t tx o.type e i ht hi hsize v xs hown xv hs
    unfold Oper.wp execOp
    simp only [ho, resolve, invoke, builtin, Sem.run_bind, Sem.run_pure, Result.andThen_ok, List.map_toArray, List.map_cons, List.map_nil, hv, hx, hr]
    exact hK _ _ (h v w (by rw [List.append_nil]; exact hown) (Grew.refl w v))
/-- The same row, its end cut off, and no room left behind it. -/
theorem RowM.cut {w : World} {B : Nat} {a : Option Addr} {n c : Nat} {xs : List Value} (h : RowM w B (.slice a n c) xs) {k : Nat} (hk : k ≤ xs.length) : RowM w B (.slice a k k) (xs.take k) := by
  have hl : (xs.take k).length = k := by rw [List.length_take]; omega
  rcases h with ⟨h0, h1⟩ | ⟨g, cap, h1, hbg, hgs, hnc, hcm, hth, hra⟩
  · subst h0
    injection h1 with h1 h2 h3
    obtain rfl : k = 0 := by simpa using hk
    exact Or.inl ⟨by simp, by rw [h1]⟩
  · injection h1 with h1 h2 h3
    refine Or.inr ⟨g, k, by rw [h1, hl], hbg, hgs, by omega, by omega, fun j hj => hth j (by omega), fun j u hj => hra j u ?_⟩
    rw [List.getElem?_take] at hj
    split at hj
    · exact hj
    · cases hj
theorem own_len (a : Option Addr) (n c n' c' : Nat) : (Value.slice a n c).ownBlock = (Value.slice a n' c').ownBlock := by cases a <;> rfl
def CutP (b B n : Nat) (v : Value) (l : List UInt8) (w : World) (e : Ending) (w' : World) : Prop :=
  e = .returned (.tuple #[]) ∧ ∃ v', w'.heap[b]? = some (.cells #[v', .int .i64 (n : Int)] 78 (0, 0)) ∧ RowM w' B v' (bv (l.take n)) ∧ (∀ k, v'.ownBlock = some k → v.ownBlock = some k) ∧ Alone b w w'
set_option maxHeartbeats 1000000 in
theorem fcut_any {w : World} {b B n : Nat} {v d : Value} {l : List UInt8} (hb : w.heap[b]? = some (.cells #[v, d] 78 (0, 0))) (hr : RowM w B v (bv l)) (hn : n ≤ l.length) (_ : l.length ≤ 4194304) (hne : ∀ k, v.ownBlock = some k → k ≠ b) :
    Calls Tryz.prog 41 #[.pointer (some ⟨b, 0, none⟩), .int .i64 (n : Int)] w (CutP b B n v l w) := by
  obtain ⟨sa, sc, rfl⟩ := hr.shape
  have c0 : w.cell? ⟨b, 0, none⟩ = some (.slice sa (bv l).length sc) := (cell_of_row _ _ _ _ _ _ hb).trans rfl
  have c1 : w.cell? ⟨b, 1, none⟩ = some d := (cell_of_row _ _ _ _ _ _ hb).trans rfl
  have f0 : w.frozen? ⟨b, 0, none⟩ = false := by unfold World.frozen?; rw [hb]; simp
  have f1 : w.frozen? ⟨b, 1, none⟩ = false := by unfold World.frozen?; rw [hb]; simp
  have hcap : l.length ≤ sc := by
    rcases hr with ⟨h0, h1⟩ | ⟨g, cap, h1, _, _, h2, _⟩
    · injection h1 with _ h3 _; rw [bv_len] at h3; omega
    · injection h1 with _ _ h3; rw [bv_len] at h2; omega
  have hcm : sc ≤ maxLen := by
    rcases hr with ⟨h0, h1⟩ | ⟨g, cap, h1, _, _, _, h2, _⟩
    · injection h1 with _ _ h3; omega
    · injection h1 with _ _ h3; omega
  rw [bv_len] at c0
  have HB := Lib.hid hb
  have HRR := Lib.hid (hr.cut (k := n) (by rw [bv_len]; exact hn))
  have HNE := Lib.hid hne
  clear hb hr hne
  unfold maxLen at hcm
  go_enter Tryz.func41, Tryz.ntmps41
  go_wp2_with fail
  go_end0
  have hk : ∀ k, k ≠ b → ((w.setCell ⟨b, 0, none⟩ (.slice sa n n)).setCell ⟨b, 1, none⟩ (.int .i64 (n : Int))).heap[k]? = w.heap[k]? := fun k hk => by
    rw [Below.heap_setCell _ _ _ k hk, Below.heap_setCell _ _ _ k hk]
  refine ⟨rfl, .slice sa n n, ?_, ?_, fun k hk => (own_len sa _ _ _ _).symm.trans hk, (Alone.set b 0 w _).trans (Alone.set b 1 _ _)⟩
  · rw [cells_set (cells_set HB.out _) _]; rfl
  · rw [bv_take]
    exact HRR.out.kept (by simp) (fun k e => hk k (HNE.out k ((own_len sa _ _ _ _).trans e)))
def syncS (s : Fs) (x : Nm) : Fs × Int :=
  match fnd s.now x with
  | none => (s, 4)
  | some i => if s.more = 0 then (s, 190) else (putF (tick s) i ⟨(s.files.getD i noFi).data, (s.files.getD i noFi).data.length⟩, 0)
def cutS (s : Fs) (x : Nm) (n : Int) : Fs × Int :=
  match fnd s.now x with
  | none => (s, 4)
  | some i => if n < 0 ∨ ((s.files.getD i noFi).data.length : Int) < n then (s, 1) else if s.more = 0 then (s, 190) else (putF (tick s) i ⟨(s.files.getD i noFi).data.take n.toNat, n.toNat⟩, 0)
def appendS (s : Fs) (x : Nm) (b : List UInt8) : Fs × Int :=
  match fnd s.now x with
  | none => (s, 4)
  | some i => if (s.room : Int) - (used s : Int) < (b.length : Int) then (s, 3) else if s.more = 0 then (s, 190) else (putF (tick s) i ⟨(s.files.getD i noFi).data ++ b, (s.files.getD i noFi).dur⟩, 0)
theorem getD_mem {fs : List Fi} {i : Nat} (h : i < fs.length) : fs.getD i noFi ∈ fs := by simp [List.getD, h]
theorem syncS_ok {s : Fs} (ok : FsOk s) (x : Nm) : FsOk (syncS s x).1 := by
  unfold syncS
  cases hf : fnd s.now x with
  | none => exact ok
  | some i =>
    show FsOk (if s.more = 0 then (s, 190) else (putF (tick s) i ⟨(s.files.getD i noFi).data, (s.files.getD i noFi).data.length⟩, 0)).1
    by_cases h3 : s.more = 0
    · rw [if_pos h3]; exact ok
    · rw [if_neg h3]; exact ok.tick.putF ⟨Nat.le_refl _, (ok.dat _ (getD_mem (ok.nowOk.lt _ (fnd_mem hf)))).2⟩
theorem cutS_ok {s : Fs} (ok : FsOk s) (x : Nm) (n : Int) : FsOk (cutS s x n).1 := by
  unfold cutS
  cases hf : fnd s.now x with
  | none => exact ok
  | some i =>
    show FsOk (if n < 0 ∨ ((s.files.getD i noFi).data.length : Int) < n then (s, 1) else if s.more = 0 then (s, 190) else (putF (tick s) i ⟨(s.files.getD i noFi).data.take n.toNat, n.toNat⟩, 0)).1
    by_cases h1 : n < 0 ∨ ((s.files.getD i noFi).data.length : Int) < n
    · rw [if_pos h1]; exact ok
    · rw [if_neg h1]
      by_cases h3 : s.more = 0
      · rw [if_pos h3]; exact ok
      · rw [if_neg h3]
        have h4 : (s.files.getD i noFi).data.length ≤ 4194304 := (ok.dat _ (getD_mem (ok.nowOk.lt _ (fnd_mem hf)))).2
        exact ok.tick.putF ⟨by show n.toNat ≤ ((s.files.getD i noFi).data.take n.toNat).length; rw [List.length_take]; omega, by show ((s.files.getD i noFi).data.take n.toNat).length ≤ _; rw [List.length_take]; omega⟩
theorem used_mem {fs : List Fi} {l : Dir} {x : Nm} {i : Nat} (h : fnd l x = some i) : (fs.getD i noFi).data.length ≤ usedD fs l := by
  have hm := fnd_mem h
  clear h
  induction l with
  | nil => cases hm
  | cons p r ih =>
    show _ ≤ (fs.getD p.2 noFi).data.length + usedD fs r
    rcases List.mem_cons.1 hm with e | hm
    · rw [← e]; exact Nat.le_add_right _ _
    · have := ih hm; omega
theorem appendS_ok {s : Fs} (ok : FsOk s) (x : Nm) (b : List UInt8) : FsOk (appendS s x b).1 := by
  unfold appendS
  cases hf : fnd s.now x with
  | none => exact ok
  | some i =>
    show FsOk (if (s.room : Int) - (used s : Int) < (b.length : Int) then (s, 3) else if s.more = 0 then (s, 190) else (putF (tick s) i ⟨(s.files.getD i noFi).data ++ b, (s.files.getD i noFi).dur⟩, 0)).1
    by_cases h1 : (s.room : Int) - (used s : Int) < (b.length : Int)
    · rw [if_pos h1]; exact ok
    · rw [if_neg h1]
      by_cases h3 : s.more = 0
      · rw [if_pos h3]; exact ok
      · rw [if_neg h3]
        have h4 : (s.files.getD i noFi).dur ≤ (s.files.getD i noFi).data.length ∧ (s.files.getD i noFi).data.length ≤ 4194304 := ok.dat _ (getD_mem (ok.nowOk.lt _ (fnd_mem hf)))
        have h5 := used_mem (fs := s.files) hf
        have h6 := ok.room
        unfold used at h1
        exact ok.tick.putF ⟨by show _ ≤ ((s.files.getD i noFi).data ++ b).length; rw [List.length_append]; exact Nat.le_trans h4.1 (Nat.le_add_right _ _), by show ((s.files.getD i noFi).data ++ b).length ≤ _; rw [List.length_append]; omega⟩
theorem used_put {t : Fs} {x : Nm} {i : Nat} (ok : FsOk t) (hf : fnd t.now x = some i) (f : Fi) : used (putF t i f) + (t.files.getD i noFi).data.length = used t + f.data.length :=
  usedD_set ok.nowOk hf (ok.nowOk.lt _ (fnd_mem hf)) f
set_option maxHeartbeats 1000000 in
theorem sync_any {B : Nat} {X : FsX} {w : World} {bf : Nat} {s : Fs} (h : FsAt B X w bf s) (ok : FsOk s) (hs : s.steps ≤ 16777214) (x : Nm) (hx : x.length ≤ 4194304) :
    Calls Tryz.prog 20 #[.pointer (some ⟨bf, 0, none⟩), .string ⟨x.toArray⟩] w (FsP B X w bf (.int .i64 (syncS s x).2) (syncS s x).1) := by
  have H := Lib.hid h
  have OK := Lib.hid ok
  obtain ⟨r, hr⟩ : ∃ r, syncS s x = r := ⟨_, rfl⟩
  have HR := Lib.hid hr
  rw [hr]
  obtain ⟨_, _, c2, _⟩ := h.cells
  have hl := h.mn.look hx
  clear h ok hx hr
  cases hf : fnd s.now x with
  | none =>
    rw [fndV_none hf] at hl
    have HF := Lib.hid hf
    clear hf
    go_enter Tryz.func20, Tryz.ntmps20
    go_wp2_with fail
    go_ret
    have e : r = (s, 4) := by rw [← HR.out]; unfold syncS; rw [HF.out]
    rw [e]
    exact ⟨rfl, X, H.out, FsUp.refl _ _ _⟩
  | some i =>
    rw [fndV_some hf] at hl
    have HF := Lib.hid hf
    have HR2 : Hid (r = if s.more = 0 then (s, 190) else (putF (tick s) i ⟨(s.files.getD i noFi).data, (s.files.getD i noFi).data.length⟩, 0)) := Lib.hid (by rw [← HR.out]; unfold syncS; rw [hf])
    clear hf
    by_cases hm : s.more = 0
    · have HM := Lib.hid hm
      clear hm
      go_enter Tryz.func20, Tryz.ntmps20
      go_wp2_with fail
      refine (step_cut H.out HM.out).mono ?_
      rintro e w1 ⟨rfl, rfl⟩
      go_wp2_with fail
      go_ret
      rw [HR2.out, if_pos HM.out]
      exact ⟨rfl, X, H.out, FsUp.refl _ _ _⟩
    · have HM := Lib.hid hm
      clear hm
      go_enter Tryz.func20, Tryz.ntmps20
      go_wp2_with fail
      refine (step_ok H.out OK.out (by omega) HM.out).mono ?_
      rintro e w1 ⟨rfl, hh1, al1⟩
      have H1 := Lib.hid hh1
      have A1 := Lib.hid al1
      clear hh1 al1 c2 hl
      have HL : Hid (Live (tick s) i) := Lib.hid (OK.out.live (fnd_mem HF.out))
      have HFI := Lib.hid (H1.out.fil i HL.out)
      obtain ⟨sa, sc, hdv⟩ := HFI.out.shape
      obtain ⟨k0, k1⟩ := HFI.out.cells
      rw [hdv] at k0
      have HDV := Lib.hid hdv
      have f1 : w1.frozen? ⟨X.fb i, 1, none⟩ = false := by unfold World.frozen?; rw [HFI.out.blk]; simp
      obtain ⟨m, hmm⟩ : ∃ m, ((tick s).files.getD i noFi).data.length = m := ⟨_, rfl⟩
      rw [hmm] at k0
      have HMM := Lib.hid hmm
      clear hdv hmm
      go_wp2_with fail
      go_ret
      rw [HR2.out, if_neg HM.out]
      have hne : X.fb i ≠ bf := fun e => by have := HFI.out.tb; rw [e, H1.out.tf] at this; cases this
      have hset : ∀ k, k ≠ X.fb i → (w1.setCell ⟨X.fb i, 1, none⟩ (.int .i64 (m : Int))).heap[k]? = w1.heap[k]? := fun k hk => Below.heap_setCell w1 _ _ k hk
      have hu : used (putF (tick s) i ⟨(s.files.getD i noFi).data, (s.files.getD i noFi).data.length⟩) = used (tick s) := by
        have h1 : used (putF (tick s) i ⟨(s.files.getD i noFi).data, (s.files.getD i noFi).data.length⟩) + (s.files.getD i noFi).data.length = used (tick s) + (s.files.getD i noFi).data.length := used_put OK.out.tick HF.out _
        omega
      have hB := H1.out.dom (X.fb i) (by rw [HFI.out.tb]; exact fun c => by cases c)
      obtain ⟨X', q1, _, q3⟩ := FsAt.putFile (wF := w1.setCell ⟨X.fb i, 1, none⟩ (.int .i64 (m : Int))) (f := ⟨(s.files.getD i noFi).data, (s.files.getD i noFi).data.length⟩) (v' := X.dv i) H1.out HL.out (OK.out.live_lt HL.out) (by simp)
        (fun k hk _ h2 _ => hset k (fun e => h2 (by rw [e]; exact HFI.out.tb)))
        (by rw [hset bf (fun e => hne e.symm), H1.out.blk]; unfold fsRow; rw [hu]; rfl)
        (by rw [cells_set HFI.out.blk _, ← HMM.out]; rfl)
        (HFI.out.row.kept (by simp) (fun k e => hset k (fun e2 => by have h1 := HFI.out.tv k e; rw [e2, HFI.out.tb] at h1; cases h1)))
        (fun k e => Or.inl e)
      refine ⟨rfl, X', q1, ⟨(A1.out.below H.out.bfB.1 H.out.baseB).trans ((Below.refl B w1).setCell hB.1 _), fun k hk ht => ?_, fun k hk => ?_⟩⟩
      · rw [hset k (fun e => by rw [e, HFI.out.tb] at ht; cases ht), A1.out.block k hk (fun e => by rw [e, H.out.tf] at ht; cases ht)]
      · rcases q3 k hk with h1 | h1
        · exact Or.inl h1
        · right; have := A1.out.size; omega
end Go.Proofs.YtjefcalndfcmdaaGreatDoor
