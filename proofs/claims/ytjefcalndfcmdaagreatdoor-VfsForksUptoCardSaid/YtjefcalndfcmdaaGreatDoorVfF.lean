/- What calls make of a file system keeps it sound; a file made new; a file's bytes made others. -/
import Derived.Test.YtjefcalndfcmdaaGreatDoorVfE
import Derived.Test.YtjefcalndfcmdaaGreatDoorPathAll
namespace Go.Proofs.YtjefcalndfcmdaaGreatDoor
open Go.RowKit Go.Maps
def putF (s : Fs) (i : Nat) (f : Fi) : Fs := { s with files := s.files.set i f }
def newF (s : Fs) : Fs := { s with files := s.files ++ [noFi] }
theorem FsOk.tick {s : Fs} (ok : FsOk s) : FsOk (tick s) := by
  have h1 := ok.cnt
  have h3 := ok.lo
  have h4 := ok.hi
  refine ⟨ok.eq, ok.dirs, ok.acts, ok.dat, Nat.le_trans h1 (Nat.le_succ _), ok.room, ?_, ?_⟩
  · show _ ≤ (if 0 < s.more then s.more - 1 else s.more); split <;> omega
  · show (if 0 < s.more then s.more - 1 else s.more) ≤ _; split <;> omega
theorem FsOk.stop {s : Fs} (ok : FsOk s) {n : Int} (h : -9223372036854775808 ≤ n ∧ n ≤ 9223372036854775807) : FsOk { s with more := n } := ⟨ok.eq, ok.dirs, ok.acts, ok.dat, ok.cnt, ok.room, h.1, h.2⟩
theorem FsOk.putF {s : Fs} (ok : FsOk s) {i : Nat} {f : Fi} (h : f.dur ≤ f.data.length ∧ f.data.length ≤ 4194304) : FsOk (putF s i f) := by
  have hl : (s.files.set i f).length = s.files.length := List.length_set
  refine ⟨ok.eq, fun k hk => ?_, fun a ha => ?_, fun g hg => ?_, ok.cnt, ok.room, ok.lo, ok.hi⟩
  · show DirOk (s.files.set i f).length _; rw [hl]; exact ok.dirs k hk
  · show (∀ j, a.file = some j → j < (s.files.set i f).length) ∧ _; rw [hl]; exact ok.acts a ha
  · rcases List.mem_or_eq_of_mem_set hg with h1 | h1
    · exact ok.dat g h1
    · rw [h1]; exact h
theorem FsOk.chg {t : Fs} (ok : FsOk t) {a : Ac} (hd : DirOk t.files.length (doA t.now a)) (ha : (∀ i, a.file = some i → i < t.files.length) ∧ a.gone.length ≤ 255 ∧ a.come.length ≤ 255) (hc : t.sure.length + t.acts.length + 1 ≤ t.steps) : FsOk (chg t a) := by
  refine ⟨?_, fun k hk => ?_, fun b hb => ?_, ok.dat, ?_, ok.room, ok.lo, ok.hi⟩
  · show doA t.now a = doAll t.sure (t.acts ++ [a])
    rw [doAll_snoc, ← ok.eq]
  · have hk2 : k ≤ t.acts.length + 1 := by have : k ≤ (t.acts ++ [a]).length := hk; simpa using this
    show DirOk t.files.length (doAll t.sure ((t.acts ++ [a]).take k))
    by_cases h1 : k ≤ t.acts.length
    · rw [List.take_append_of_le_length h1]; exact ok.dirs k h1
    · rw [List.take_of_length_le (by rw [List.length_append, List.length_singleton]; omega), doAll_snoc, ← ok.eq]; exact hd
  · rcases List.mem_append.1 hb with h1 | h1
    · exact ok.acts b h1
    · rw [List.mem_singleton.1 h1]; exact ha
  · show t.sure.length + (t.acts ++ [a]).length ≤ t.steps
    rw [List.length_append, List.length_singleton]; omega
theorem check_yes {p : List UInt8} (h : checkN p = 0) : p ≠ [] ∧ p.length ≤ 255 := by
  unfold checkN at h
  by_cases h1 : 255 < p.length ∨ 16 < (namesL p).length
  · rw [if_pos h1] at h; omega
  · rw [if_neg h1] at h
    by_cases h2 : p = [] ∨ (namesL p).all nameB = false
    · rw [if_pos h2] at h; omega
    · exact ⟨fun e => h2 (Or.inl e), by omega⟩
theorem FsOk.newF {s : Fs} (ok : FsOk s) : FsOk (newF s) := by
  have hl : (s.files ++ [noFi]).length = s.files.length + 1 := by simp
  refine ⟨ok.eq, fun k hk => ?_, fun a ha => ?_, fun g hg => ?_, ok.cnt, ok.room, ok.lo, ok.hi⟩
  · exact (ok.dirs k hk).mono (by show _ ≤ (s.files ++ [noFi]).length; omega)
  · exact ⟨fun i hi => by have := (ok.acts a ha).1 i hi; show i < (s.files ++ [noFi]).length; omega, (ok.acts a ha).2⟩
  · rcases List.mem_append.1 hg with h1 | h1
    · exact ok.dat g h1
    · rw [List.mem_singleton.1 h1]; exact ⟨Nat.le_refl _, Nat.zero_le _⟩
theorem FsOk.create {s : Fs} (ok : FsOk s) {x : Nm} (hx : checkN x = 0) : FsOk (Go.Proofs.YtjefcalndfcmdaaGreatDoor.chg (Go.Proofs.YtjefcalndfcmdaaGreatDoor.tick (Go.Proofs.YtjefcalndfcmdaaGreatDoor.newF s)) ⟨[], x, some s.files.length⟩) := by
  obtain ⟨hne, hl⟩ := check_yes hx
  have hc := ok.cnt
  have ok1 : FsOk (Go.Proofs.YtjefcalndfcmdaaGreatDoor.tick (Go.Proofs.YtjefcalndfcmdaaGreatDoor.newF s)) := ok.newF.tick
  refine ok1.chg ?_ ⟨fun i hi => ?_, Nat.zero_le _, hl⟩ (by show s.sure.length + s.acts.length + 1 ≤ s.steps + 1; omega)
  · refine DirOk.some (i := s.files.length) ok1.nowOk rfl (by show _ < (s.files ++ [noFi]).length; simp) ⟨hne, hl⟩ (fun p hp e => ?_)
    have := ok.nowOk.lt p hp
    omega
  · injection hi with hi
    subst hi
    show _ < (s.files ++ [noFi]).length; simp
theorem FsOk.rename {s : Fs} (ok : FsOk s) {x y : Nm} {i : Nat} (hx : fnd s.now x = some i) (hy : checkN y = 0) : FsOk (Go.Proofs.YtjefcalndfcmdaaGreatDoor.chg (Go.Proofs.YtjefcalndfcmdaaGreatDoor.tick s) ⟨x, y, some i⟩) := by
  obtain ⟨hne, hl⟩ := check_yes hy
  have hc := ok.cnt
  have hm := fnd_mem hx
  have hi := ok.nowOk.lt _ hm
  refine ok.tick.chg ?_ ⟨fun j hj => ?_, (ok.nowOk.nm _ hm).2, hl⟩ (by show s.sure.length + s.acts.length + 1 ≤ s.steps + 1; omega)
  · exact DirOk.some (i := i) ok.nowOk rfl hi ⟨hne, hl⟩ (fun p hp e => by rw [ok.nowOk.inj p hp _ hm e])
  · injection hj with hj
    subst hj; exact hi
theorem FsOk.remove {s : Fs} (ok : FsOk s) {x : Nm} {i : Nat} (hx : fnd s.now x = some i) : FsOk (Go.Proofs.YtjefcalndfcmdaaGreatDoor.chg (Go.Proofs.YtjefcalndfcmdaaGreatDoor.tick s) ⟨x, [], none⟩) := by
  have hc := ok.cnt
  have hm := fnd_mem hx
  exact ok.tick.chg (DirOk.none ok.nowOk rfl) ⟨fun j hj => (by cases hj), (ok.nowOk.nm _ hm).2, Nat.zero_le _⟩ (by show s.sure.length + s.acts.length + 1 ≤ s.steps + 1; omega)
theorem no_empty {s : Fs} (ok : FsOk s) : fnd s.now [] = none := fnd_none.2 (fun p hp e => (ok.nowOk.nm p hp).1 e)
/-- The flags of blocks with one more file. -/
def withFile (X : FsX) (n nb : Nat) : FsX := { X with T := fun k => if k = nb then .file n else X.T k, fb := fun j => if j = n then nb else X.fb j, dv := fun j => if j = n then .slice none 0 0 else X.dv j }
theorem mapAt_fb {w : World} {b m : Nat} {D : DataW Unit} {fb fb' : Nat → Nat} {l : Dir} (h : MapAt w b m D fb l) (he : ∀ p ∈ l, fb' p.2 = fb p.2) : MapAt w b m D fb' l := by
  refine ⟨h.own, h.tidy, fun x z => ?_⟩
  rw [h.at_ x z]
  unfold fndB
  cases hf : fnd l x with
  | none => rfl
  | some i => show _ = DataW.lit (.int .i64 ((fb' i : Nat) : Int)); rw [he _ (fnd_mem hf)]
theorem acsV_fb {fb fb' : Nat → Nat} {l : List Ac} (he : ∀ a ∈ l, ∀ i, a.file = some i → fb' i = fb i) : acsV fb' l = acsV fb l := by
  unfold acsV
  congr 1
  refine List.map_congr_left (fun a ha => ?_)
  unfold acV acP
  cases hf : a.file with
  | none => rfl
  | some i => simp [he a ha i hf]
theorem FsAt.newFile {B : Nat} {X : FsX} {w : World} {bf nb : Nat} {s : Fs} (h : FsAt B X w bf s) (ok : FsOk s) (hT : X.T nb = .no) (hB : B ≤ nb) (hlt : nb < w.heap.size)
    (hb : w.heap[nb]? = some (.cells #[.slice none 0 0, .int .i64 0] 78 (0, 0))) : FsAt B (withFile X s.files.length nb) w bf (newF s) ∧ FileOk B (withFile X s.files.length nb) w (newF s) s.files.length := by
  have hne : ∀ k, X.T k ≠ .no → k ≠ nb := fun k hk e => hk (by rw [e]; exact hT)
  have hTk : ∀ k, X.T k ≠ .no → (if k = nb then Role.file s.files.length else X.T k) = X.T k := fun k hk => if_neg (hne k hk)
  have hg : ∀ i, i < s.files.length → (s.files ++ [noFi]).getD i noFi = s.files.getD i noFi := fun i hi => by simp [List.getD, List.getElem?_append_left hi]
  have hgn : (s.files ++ [noFi]).getD s.files.length noFi = noFi := by simp [List.getD]
  have hu : used (newF s) = used s := usedD_congr (fun p hp => by
    show ((s.files ++ [noFi]).getD p.2 noFi).data.length = _
    rw [hg _ (ok.nowOk.lt p hp)])
  have hfb : ∀ i, i < s.files.length → (if i = s.files.length then nb else X.fb i) = X.fb i := fun i hi => if_neg (by omega)
  refine ⟨⟨fun k hk => ?_, ?_, ?_, ?_, fun k e => ?_, ?_, ?_, ?_, h.hn, h.hd, ?_, fun i hi => ?_⟩, ⟨?_, fun k e => ?_, ?_, ?_⟩⟩
  · by_cases e : k = nb
    · rw [e]; exact ⟨hB, hlt⟩
    · refine h.dom k (fun c => hk ?_)
      show (if k = nb then Role.file s.files.length else X.T k) = .no
      rw [if_neg e]; exact c
  · show (if bf = nb then Role.file s.files.length else X.T bf) = _
    rw [hTk bf (by rw [h.tf]; exact fun c => by cases c), h.tf]
  · show (if X.bn = nb then Role.file s.files.length else X.T X.bn) = _
    rw [hTk _ (by rw [h.tn]; exact fun c => by cases c), h.tn]
  · show (if X.bd = nb then Role.file s.files.length else X.T X.bd) = _
    rw [hTk _ (by rw [h.td]; exact fun c => by cases c), h.td]
  · have h1 := h.tr k e
    show (if k = nb then Role.file s.files.length else X.T k) = _
    rw [hTk k (by rw [h1]; exact fun c => by cases c), h1]
  · rw [h.blk]
    unfold fsRow
    rw [hu]; rfl
  · exact mapAt_fb h.mn (fun p hp => hfb _ (ok.nowOk.lt p hp))
  · exact mapAt_fb h.md (fun p hp => hfb _ (ok.sureOk.lt p hp))
  · show w.ownsRow B 83 3 X.va s.acts.length (acsV (fun j => if j = s.files.length then nb else X.fb j) s.acts)
    rw [acsV_fb (fun a ha i hi => hfb i ((ok.acts a ha).1 i hi))]
    exact h.row
  · have hl : Live s i := hi
    have hlt2 := ok.live_lt hl
    have hf := h.fil i hl
    have hni : ¬ i = s.files.length := by omega
    refine ⟨?_, fun k e => ?_, ?_, ?_⟩
    · show (if (if i = s.files.length then nb else X.fb i) = nb then Role.file s.files.length else X.T (if i = s.files.length then nb else X.fb i)) = _
      rw [if_neg hni, hTk _ (by rw [hf.tb]; exact fun c => by cases c), hf.tb]
    · have e2 : (if i = s.files.length then Value.slice none 0 0 else X.dv i).ownBlock = some k := e
      rw [if_neg hni] at e2
      have h1 := hf.tv k e2
      show (if k = nb then Role.file s.files.length else X.T k) = _
      rw [hTk k (by rw [h1]; exact fun c => by cases c), h1]
    · show w.heap[if i = s.files.length then nb else X.fb i]? = some (.cells #[if i = s.files.length then Value.slice none 0 0 else X.dv i, .int .i64 (((s.files ++ [noFi]).getD i noFi).dur : Int)] 78 (0, 0))
      rw [if_neg hni, if_neg hni, hg i hlt2]; exact hf.blk
    · show RowM w B (if i = s.files.length then Value.slice none 0 0 else X.dv i) (bv ((s.files ++ [noFi]).getD i noFi).data)
      rw [if_neg hni, hg i hlt2]; exact hf.row
  · show (if (if s.files.length = s.files.length then nb else X.fb s.files.length) = nb then Role.file s.files.length else _) = _
    rw [if_pos rfl, if_pos rfl]
  · have e2 : (if s.files.length = s.files.length then Value.slice none 0 0 else X.dv s.files.length).ownBlock = some k := e
    rw [if_pos rfl] at e2
    simp [Value.ownBlock] at e2
  · show w.heap[if s.files.length = s.files.length then nb else X.fb s.files.length]? = some (.cells #[if s.files.length = s.files.length then Value.slice none 0 0 else X.dv s.files.length, .int .i64 (((s.files ++ [noFi]).getD s.files.length noFi).dur : Int)] 78 (0, 0))
    rw [if_pos rfl, if_pos rfl, hgn]; exact hb
  · show RowM w B (if s.files.length = s.files.length then Value.slice none 0 0 else X.dv s.files.length) (bv ((s.files ++ [noFi]).getD s.files.length noFi).data)
    rw [if_pos rfl, hgn]; exact Or.inl ⟨rfl, rfl⟩
/-- A file's bytes made others. -/
theorem FsAt.putFile {B : Nat} {X : FsX} {w wF : World} {bf : Nat} {t : Fs} {i : Nat} {f : Fi} {v' : Value} (h : FsAt B X w bf t) (hi : Live t i) (hil : i < t.files.length) (hz : w.heap.size ≤ wF.heap.size)
    (hK : ∀ k, k < w.heap.size → X.T k ≠ .fs → X.T k ≠ .file i → X.T k ≠ .data i → wF.heap[k]? = w.heap[k]?)
    (hblk : wF.heap[bf]? = some (.cells (fsRow X (putF t i f)) 62 (0, 0)))
    (hfb : wF.heap[X.fb i]? = some (.cells #[v', .int .i64 (f.dur : Int)] 78 (0, 0))) (hrow : RowM wF B v' (bv f.data))
    (hown : ∀ k, v'.ownBlock = some k → (X.dv i).ownBlock = some k ∨ (w.heap.size ≤ k ∧ k < wF.heap.size ∧ B ≤ k)) :
    ∃ X', FsAt B X' wF bf (putF t i f) ∧ X'.fb = X.fb ∧ ∀ k, X'.T k ≠ .no → X.T k ≠ .no ∨ w.heap.size ≤ k := by
  have hfi := h.fil i hi
  have hlt : ∀ k, X.T k ≠ .no → k < w.heap.size := fun k ht => (h.dom k ht).2
  have hT : ∀ k, k < w.heap.size → X.T k ≠ .data i → (if v'.ownBlock = some k then Role.data i else X.T k) = X.T k := fun k hk ht => by
    rw [if_neg (fun e => ?_)]
    rcases hown k e with h1 | h1
    · exact ht (hfi.tv k h1)
    · omega
  have key : ∀ k r, X.T k = r → r ≠ .no → r ≠ .data i → (if v'.ownBlock = some k then Role.data i else X.T k) = r := fun k r e h1 h2 => by
    rw [hT k (hlt k (by rw [e]; exact h1)) (by rw [e]; exact h2), e]
  refine ⟨{ X with T := fun k => if v'.ownBlock = some k then .data i else X.T k, dv := fun j => if j = i then v' else X.dv j }, ⟨fun k ht => ?_, key _ _ h.tf (fun c => by cases c) (fun c => by cases c), key _ _ h.tn (fun c => by cases c) (fun c => by cases c), key _ _ h.td (fun c => by cases c) (fun c => by cases c), fun k e => key _ _ (h.tr k e) (fun c => by cases c) (fun c => by cases c), hblk, ?_, ?_, h.hn, h.hd, ?_, fun j hj => ?_⟩, rfl, fun k ht => ?_⟩
  · by_cases e : v'.ownBlock = some k
    · rcases hown k e with h1 | h1
      · have := h.dom k (by rw [hfi.tv k h1]; exact fun c => by cases c)
        exact ⟨this.1, Nat.lt_of_lt_of_le this.2 hz⟩
      · exact ⟨h1.2.2, h1.2.1⟩
    · have ht2 : X.T k ≠ .no := fun c => ht (by show (if v'.ownBlock = some k then Role.data i else X.T k) = _; rw [if_neg e]; exact c)
      exact ⟨(h.dom k ht2).1, Nat.lt_of_lt_of_le (h.dom k ht2).2 hz⟩
  · exact h.mn.kept (hK _ (hlt _ (by rw [h.tn]; exact fun c => by cases c)) (by rw [h.tn]; exact fun c => by cases c) (by rw [h.tn]; exact fun c => by cases c) (by rw [h.tn]; exact fun c => by cases c))
  · exact h.md.kept (hK _ (hlt _ (by rw [h.td]; exact fun c => by cases c)) (by rw [h.td]; exact fun c => by cases c) (by rw [h.td]; exact fun c => by cases c) (by rw [h.td]; exact fun c => by cases c))
  · exact row_kept h.row (fun k e => hK k (hlt k (by rw [h.tr k e]; exact fun c => by cases c)) (by rw [h.tr k e]; exact fun c => by cases c) (by rw [h.tr k e]; exact fun c => by cases c) (by rw [h.tr k e]; exact fun c => by cases c))
  · by_cases e : j = i
    · subst e
      refine ⟨key _ _ hfi.tb (fun c => by cases c) (fun c => by cases c), fun k e => ?_, ?_, ?_⟩
      · have e2 : (if j = j then v' else X.dv j).ownBlock = some k := e
        rw [if_pos rfl] at e2
        show (if v'.ownBlock = some k then Role.data j else X.T k) = _
        rw [if_pos e2]
      · show wF.heap[X.fb j]? = some (.cells #[if j = j then v' else X.dv j, .int .i64 (((t.files.set j f).getD j noFi).dur : Int)] 78 (0, 0))
        rw [if_pos rfl, getD_set hil, if_pos rfl]; exact hfb
      · show RowM wF B (if j = j then v' else X.dv j) (bv ((t.files.set j f).getD j noFi).data)
        rw [if_pos rfl, getD_set hil, if_pos rfl]; exact hrow
    · have hj2 : Live t j := hj
      have hf := h.fil j hj2
      have hk := hf.kept (w' := wF) (fun k e2 => hK k (hlt k (by rcases e2 with e2 | e2 <;> rw [e2] <;> exact fun c => by cases c)) (by rcases e2 with e2 | e2 <;> rw [e2] <;> exact fun c => by cases c) (by rcases e2 with e2 | e2 <;> rw [e2] <;> (intro c; first | (cases c; done) | (cases c; exact e rfl))) (by rcases e2 with e2 | e2 <;> rw [e2] <;> (intro c; first | (cases c; done) | (cases c; exact e rfl)))) hz
      refine ⟨key _ _ hf.tb (fun c => by cases c) (fun c => by cases c), fun k e2 => ?_, ?_, ?_⟩
      · have e3 : (if j = i then v' else X.dv j).ownBlock = some k := e2
        rw [if_neg e] at e3
        exact key _ _ (hf.tv k e3) (fun c => by cases c) (fun c => by injection c with c; exact e c)
      · show wF.heap[X.fb j]? = some (.cells #[if j = i then v' else X.dv j, .int .i64 (((t.files.set i f).getD j noFi).dur : Int)] 78 (0, 0))
        rw [if_neg e, getD_set hil, if_neg e]; exact hk.blk
      · show RowM wF B (if j = i then v' else X.dv j) (bv ((t.files.set i f).getD j noFi).data)
        rw [if_neg e, getD_set hil, if_neg e]; exact hk.row
  · by_cases e : v'.ownBlock = some k
    · rcases hown k e with h1 | h1
      · left; rw [hfi.tv k h1]; exact fun c => by cases c
      · exact Or.inr h1.1
    · left
      intro c
      exact ht (by show (if v'.ownBlock = some k then Role.data i else X.T k) = _; rw [if_neg e]; exact c)
end Go.Proofs.YtjefcalndfcmdaaGreatDoor
