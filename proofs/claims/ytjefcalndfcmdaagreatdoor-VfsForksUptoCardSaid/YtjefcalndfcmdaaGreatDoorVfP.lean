/- A file system that a call holds, with what lies beside it; the laws' awake. -/
import Derived.Test.YtjefcalndfcmdaaGreatDoorVfO
import Derived.Lib.SlBytesConst
namespace Go.Proofs.YtjefcalndfcmdaaGreatDoor
open Go.RowKit Go.Maps
/-- A file system made behind w0, with blocks beside it (F) that are none of its own. -/
structure FsG (w0 : World) (F : Nat → Prop) (w : World) (bf : Nat) (s : Fs) : Prop where
  ex : ∃ X, FsAt w0.heap.size X w bf s ∧ ∀ k, F k → X.T k = .no ∧ k < w.heap.size
  below : Below w0.heap.size w0 w
  ok : FsOk s
def GP (w0 : World) (F : Nat → Prop) (w : World) (bf : Nat) (v : Value) (s' : Fs) (e : Ending) (w' : World) : Prop :=
  e = .returned v ∧ FsG w0 F w' bf s' ∧ w.heap.size ≤ w'.heap.size ∧ ∀ k, F k → w'.heap[k]? = w.heap[k]?
theorem FsG.up {w0 w w' : World} {F : Nat → Prop} {bf : Nat} {s' : Fs} {X X' : FsX} (hb : Below w0.heap.size w0 w) (hF : ∀ k, F k → X.T k = .no ∧ k < w.heap.size) (ok : FsOk s') (h : FsAt w0.heap.size X' w' bf s') (hu : FsUp w0.heap.size X w X' w') :
    FsG w0 F w' bf s' ∧ w.heap.size ≤ w'.heap.size ∧ ∀ k, F k → w'.heap[k]? = w.heap[k]? := by
  refine ⟨⟨⟨X', h, fun k hk => ⟨?_, Nat.lt_of_lt_of_le (hF k hk).2 hu.size⟩⟩, hb.trans hu.below, ok⟩, hu.size, fun k hk => hu.far k (hF k hk).2 (hF k hk).1⟩
  cases e : X'.T k with
  | no => rfl
  | _ =>
    rcases hu.dom k (by rw [e]; exact fun c => by cases c) with h1 | h1
    · exact absurd (hF k hk).1 h1
    · have := (hF k hk).2; omega
theorem FsG.beside {w0 w w' : World} {F : Nat → Prop} {bf : Nat} {s : Fs} (g : FsG w0 F w bf s) (hb : Below w.heap.size w w') : FsG w0 F w' bf s := by
  obtain ⟨X, h, hF⟩ := g.ex
  exact ⟨⟨X, h.below hb, fun k hk => ⟨(hF k hk).1, Nat.lt_of_lt_of_le (hF k hk).2 hb.size⟩⟩, g.below.trans (hb.mono g.below.size), g.ok⟩
/-- What is new lies beside the file system. -/
theorem FsG.more {w0 w w' : World} {F F' : Nat → Prop} {bf : Nat} {s : Fs} (g : FsG w0 F w bf s) (hb : Below w.heap.size w w') (hF' : ∀ k, F' k → F k ∨ (w.heap.size ≤ k ∧ k < w'.heap.size)) : FsG w0 F' w' bf s := by
  obtain ⟨X, h, hF⟩ := g.ex
  refine ⟨⟨X, h.below hb, fun k hk => ?_⟩, g.below.trans (hb.mono g.below.size), g.ok⟩
  rcases hF' k hk with h1 | h1
  · exact ⟨(hF k h1).1, Nat.lt_of_lt_of_le (hF k h1).2 hb.size⟩
  · refine ⟨?_, h1.2⟩
    cases e : X.T k with
    | no => rfl
    | _ => exact absurd (h.dom k (by rw [e]; exact fun c => by cases c)).2 (by omega)
/-- A block beside the file system is written. -/
theorem FsG.write {w0 w w' : World} {F : Nat → Prop} {bf : Nat} {s : Fs} (g : FsG w0 F w bf s) {b : Nat} (hb : F b) (hB : w0.heap.size ≤ b) (ha : Alone b w w') : FsG w0 F w' bf s := by
  obtain ⟨X, h, hF⟩ := g.ex
  refine ⟨⟨X, h.kept (fun k ht => ha.block k (h.dom k ht).2 (fun e => ht (by rw [e]; exact (hF b hb).1))) ha.size, fun k hk => ⟨(hF k hk).1, Nat.lt_of_lt_of_le (hF k hk).2 ha.size⟩⟩, g.below.trans (ha.below hB g.below.size), g.ok⟩
theorem FsG.bfne {w0 w : World} {F : Nat → Prop} {bf : Nat} {s : Fs} (g : FsG w0 F w bf s) : ¬ F bf := fun h => by
  obtain ⟨X, h1, hF⟩ := g.ex
  have := (hF bf h).1
  rw [h1.tf] at this; cases this
theorem g_create {w0 w : World} {F : Nat → Prop} {bf : Nat} {s : Fs} (g : FsG w0 F w bf s) (hs : s.steps ≤ 16777214) (hE : PEnv w0) (x : Nm) (hx : x.length ≤ 4194304) :
    Calls Tryz.prog 18 #[.pointer (some ⟨bf, 0, none⟩), .string ⟨x.toArray⟩] w (GP w0 F w bf (.int .i64 (createS s x).2) (createS s x).1) := by
  obtain ⟨X, h, hF⟩ := g.ex
  have hE2 := hE.on g.below
  refine (create_any h g.ok hs hE2 x hx).mono ?_
  rintro e w' ⟨he, X', h', hu⟩
  exact ⟨he, FsG.up g.below hF (createS_ok g.ok x) h' hu⟩
theorem g_rename {w0 w : World} {F : Nat → Prop} {bf : Nat} {s : Fs} (g : FsG w0 F w bf s) (hs : s.steps ≤ 16777214) (hE : PEnv w0) (x y : Nm) (hx : x.length ≤ 4194304) (hy : y.length ≤ 4194304) :
    Calls Tryz.prog 22 #[.pointer (some ⟨bf, 0, none⟩), .string ⟨x.toArray⟩, .string ⟨y.toArray⟩] w (GP w0 F w bf (.int .i64 (renameS s x y).2) (renameS s x y).1) := by
  obtain ⟨X, h, hF⟩ := g.ex
  have hE2 := hE.on g.below
  refine (rename_any h g.ok hs hE2 x y hx hy).mono ?_
  rintro e w' ⟨he, X', h', hu⟩
  exact ⟨he, FsG.up g.below hF (renameS_ok g.ok x y) h' hu⟩
theorem g_remove {w0 w : World} {F : Nat → Prop} {bf : Nat} {s : Fs} (g : FsG w0 F w bf s) (hs : s.steps ≤ 16777214) (x : Nm) (hx : x.length ≤ 4194304) :
    Calls Tryz.prog 31 #[.pointer (some ⟨bf, 0, none⟩), .string ⟨x.toArray⟩] w (GP w0 F w bf (.int .i64 (removeS s x).2) (removeS s x).1) := by
  obtain ⟨X, h, hF⟩ := g.ex
  refine (remove_any h g.ok hs x hx).mono ?_
  rintro e w' ⟨he, X', h', hu⟩
  exact ⟨he, FsG.up g.below hF (removeS_ok g.ok x) h' hu⟩
theorem g_sync {w0 w : World} {F : Nat → Prop} {bf : Nat} {s : Fs} (g : FsG w0 F w bf s) (hs : s.steps ≤ 16777214) (x : Nm) (hx : x.length ≤ 4194304) :
    Calls Tryz.prog 20 #[.pointer (some ⟨bf, 0, none⟩), .string ⟨x.toArray⟩] w (GP w0 F w bf (.int .i64 (syncS s x).2) (syncS s x).1) := by
  obtain ⟨X, h, hF⟩ := g.ex
  refine (sync_any h g.ok hs x hx).mono ?_
  rintro e w' ⟨he, X', h', hu⟩
  exact ⟨he, FsG.up g.below hF (syncS_ok g.ok x) h' hu⟩
theorem g_cut {w0 w : World} {F : Nat → Prop} {bf : Nat} {s : Fs} (g : FsG w0 F w bf s) (hs : s.steps ≤ 16777214) (x : Nm) (hx : x.length ≤ 4194304) (n : Int) :
    Calls Tryz.prog 27 #[.pointer (some ⟨bf, 0, none⟩), .string ⟨x.toArray⟩, .int .i64 n] w (GP w0 F w bf (.int .i64 (cutS s x n).2) (cutS s x n).1) := by
  obtain ⟨X, h, hF⟩ := g.ex
  refine (cut_any h g.ok hs x hx n).mono ?_
  rintro e w' ⟨he, X', h', hu⟩
  exact ⟨he, FsG.up g.below hF (cutS_ok g.ok x n) h' hu⟩
theorem g_append {w0 w : World} {F : Nat → Prop} {bf : Nat} {s : Fs} (g : FsG w0 F w bf s) (hs : s.steps ≤ 16777214) (x : Nm) (hx : x.length ≤ 4194304) (S : Nat → Prop) (vb : Value) (l : List UInt8) (hb : BytesC S w vb l) (hS : ∀ k, S k → k < w0.heap.size ∨ F k) (hlen : l.length ≤ 1073741824) :
    Calls Tryz.prog 19 #[.pointer (some ⟨bf, 0, none⟩), .string ⟨x.toArray⟩, vb] w (GP w0 F w bf (.int .i64 (appendS s x l).2) (appendS s x l).1) := by
  obtain ⟨X, h, hF⟩ := g.ex
  refine (append_any h g.ok hs x hx S vb l hb (fun k hk => by
      rcases hS k hk with h1 | h1
      · refine ⟨Nat.lt_of_lt_of_le h1 g.below.size, ?_⟩
        cases e : X.T k with
        | no => rfl
        | _ => exact absurd (h.dom k (by rw [e]; exact fun c => by cases c)).1 (by omega)
      · exact ⟨(hF k h1).2, (hF k h1).1⟩) hlen).mono ?_
  rintro e w' ⟨he, X', h', hu⟩
  exact ⟨he, FsG.up g.below hF (appendS_ok g.ok x l) h' hu⟩
theorem g_flush {w0 w : World} {F : Nat → Prop} {bf : Nat} {s : Fs} (g : FsG w0 F w bf s) (hs : s.steps ≤ 16777214) :
    Calls Tryz.prog 17 #[.pointer (some ⟨bf, 0, none⟩)] w (GP w0 F w bf (.int .i64 (flushS s).2) (flushS s).1) := by
  obtain ⟨X, h, hF⟩ := g.ex
  refine (flush_any h g.ok hs).mono ?_
  rintro e w' ⟨he, X', h', hu⟩
  exact ⟨he, FsG.up g.below hF (flushS_ok g.ok) h' hu⟩
theorem g_crash {w0 w : World} {F : Nat → Prop} {bf : Nat} {s : Fs} (g : FsG w0 F w bf s) (hs : s.steps ≤ 16777214) (ca cb : Int) :
    Calls Tryz.prog 15 #[.pointer (some ⟨bf, 0, none⟩), .int .i64 ca, .int .i64 cb] w (GP w0 F w bf (.tuple #[]) (crashS s ca cb)) := by
  obtain ⟨X, h, hF⟩ := g.ex
  refine (crash_any h g.ok hs ca cb).mono ?_
  rintro e w' ⟨he, X', h', hu⟩
  exact ⟨he, FsG.up g.below hF (crashS_ok g.ok ca cb) h' hu⟩
theorem g_stop {w0 w : World} {F : Nat → Prop} {bf : Nat} {s : Fs} (g : FsG w0 F w bf s) (n : Int) (hn : -9223372036854775808 ≤ n ∧ n ≤ 9223372036854775807) :
    Calls Tryz.prog 16 #[.pointer (some ⟨bf, 0, none⟩), .int .i64 n] w (GP w0 F w bf (.tuple #[]) { s with more := n }) := by
  obtain ⟨X, h, hF⟩ := g.ex
  refine (stop_any h n).mono ?_
  rintro e w' ⟨he, h', ha⟩
  exact ⟨he, FsG.up g.below hF (g.ok.stop hn) h' (FsUp.alone h ha)⟩
theorem g_read {w0 w : World} {F : Nat → Prop} {bf : Nat} {s : Fs} (g : FsG w0 F w bf s) (x : Nm) (hx : x.length ≤ 4194304) :
    Calls Tryz.prog 21 #[.pointer (some ⟨bf, 0, none⟩), .string ⟨x.toArray⟩] w (ReadP w (readS s x).1 (readS s x).2) := by
  obtain ⟨X, h, hF⟩ := g.ex
  exact read_any h g.ok x hx
theorem g_used {w0 w : World} {F : Nat → Prop} {bf : Nat} {s : Fs} (g : FsG w0 F w bf s) : Calls Tryz.prog 35 #[.pointer (some ⟨bf, 0, none⟩)] w fun e w' => e = .returned (.int .i64 (used s : Int)) ∧ w = w' := by
  obtain ⟨X, h, hF⟩ := g.ex
  exact used_any h
theorem g_steps {w0 w : World} {F : Nat → Prop} {bf : Nat} {s : Fs} (g : FsG w0 F w bf s) : Calls Tryz.prog 13 #[.pointer (some ⟨bf, 0, none⟩)] w fun e w' => e = .returned (.int .i64 (stV s)) ∧ w = w' := by
  obtain ⟨X, h, hF⟩ := g.ex
  exact steps_any h
theorem g_left {w0 w : World} {F : Nat → Prop} {bf : Nat} {s : Fs} (g : FsG w0 F w bf s) (hs : s.steps ≤ 16777214) : Calls Tryz.prog 23 #[.pointer (some ⟨bf, 0, none⟩)] w fun e w' => ∃ n, e = .returned (.int .i64 ((s.room : Int) - (used s : Int))) ∧ w' = w.drewN n := by
  obtain ⟨X, h, hF⟩ := g.ex
  exact left_any h g.ok (by omega)
theorem g_list {w0 w : World} {F : Nat → Prop} {bf : Nat} {s : Fs} (g : FsG w0 F w bf s) (hs : s.steps ≤ 16777214) : Calls Tryz.prog 24 #[.pointer (some ⟨bf, 0, none⟩)] w (ListP w (s.now.map (·.1))) := by
  obtain ⟨X, h, hF⟩ := g.ex
  exact list_any h g.ok (by omega)
def NewG (w0 w : World) (n : Nat) (e : Ending) (w' : World) : Prop := ∃ bf, e = .returned (.tuple #[.pointer (some ⟨bf, 0, none⟩), .int .i64 0]) ∧ FsG w0 (fun k => w0.heap.size ≤ k ∧ k < w.heap.size) w' bf (newS n) ∧ Below w.heap.size w w'
theorem g_new {w0 w : World} (hb : Below w0.heap.size w0 w) (n : Nat) (hn : n ≤ 4194304) : Calls Tryz.prog 8 #[.int .i64 (n : Int)] w (NewG w0 w n) := by
  refine (new_any w0.heap.size n w hn hb.size).mono ?_
  rintro e w' ⟨X, bf, he, h, hb', hT⟩
  refine ⟨bf, he, ⟨⟨X, h, fun k hk => ⟨?_, Nat.lt_of_lt_of_le hk.2 hb'.size⟩⟩, hb.trans (hb'.mono hb.size), newS_ok hn⟩, hb'⟩
  cases e2 : X.T k with
  | no => rfl
  | _ => exact absurd (hT k (by rw [e2]; exact fun c => by cases c)) (by omega)
theorem bytes_lit (w : World) (l : List UInt8) (fr : Nat × Nat) (hl : l.length ≤ maxLen) : BytesC (fun k => w.heap.size ≤ k ∧ k < w.heap.size + 1) (w.alloc (.cells (bv l).toArray 5 fr)) (.slice (some ⟨w.heap.size, 0, none⟩) l.length l.length) l := by
  refine Or.inr ⟨⟨w.heap.size, 0, none⟩, l.length, rfl, Nat.le_refl _, hl, Or.inr ⟨Nat.le_refl _, Nat.lt_succ_self _⟩, fun j u hj => ?_⟩
  rw [add_pos, Nat.zero_add, World.cell?_alloc_mark]
  simpa using hj
def aw1 : Fs := (createS (newS 100) [97]).1
def aw2 : Fs := (appendS aw1 [97] [120, 121]).1
def aw3 : Fs := (syncS aw2 [97]).1
def aw4 : Fs := (flushS aw3).1
def aw5 : Fs := (renameS aw4 [97] [98]).1
def aw6 : Fs := (appendS aw5 [98] [122]).1
def aw7 : Fs := crashS aw6 0 0
theorem aw_codes : (createS (newS 100) [97]).2 = 0 ∧ (appendS aw1 [97] [120, 121]).2 = 0 ∧ (syncS aw2 [97]).2 = 0 ∧ (flushS aw3).2 = 0 ∧ (renameS aw4 [97] [98]).2 = 0 ∧ (appendS aw5 [98] [122]).2 = 0 := by decide +kernel
theorem aw_ends : readS aw7 [97] = ([120, 121], 0) ∧ (readS aw7 [98]) = ([], 4) ∧ aw7.room = 100 ∧ used aw7 = 2 ∧ aw7.now.length = 1 ∧ stV aw7 = 6 := by decide +kernel
theorem aw_steps : aw1.steps ≤ 16777214 ∧ aw2.steps ≤ 16777214 ∧ aw3.steps ≤ 16777214 ∧ aw4.steps ≤ 16777214 ∧ aw5.steps ≤ 16777214 ∧ aw6.steps ≤ 16777214 ∧ aw7.steps ≤ 16777214 := by decide +kernel
set_option maxRecDepth 100000 in
set_option maxHeartbeats 4000000 in
theorem awake_any (w : World) (hE : PEnv w) : Calls Tryz.prog 7 #[] w fun e w' => e = .returned (.bool true) ∧ Below w.heap.size w w' := by
  have HE := Lib.hid hE
  have HN := Lib.hid (g_new (Below.refl w.heap.size w) 100 (by omega))
  have kc := fun (w : World) (C : Array Value) (n c : Nat) => Lib.run_convert_bytes_const (P := Tryz.prog) w 35 5 C n c Tryz.underlying35 Tryz.underlying5
  clear hE
  go_enter Tryz.func7, Tryz.ntmps7
  go_wp2_with fail
  refine HN.out.mono ?_
  rintro e w1 ⟨bf, rfl, g1, _⟩
  have G1 := Lib.hid g1
  clear g1 HN
  go_wp2_with fail
  have HC := Lib.hid (g_create G1.out (Nat.zero_le _) HE.out [97] (by decide))
  rw [aw_codes.1] at HC
  refine HC.out.mono ?_
  rintro e w2 ⟨rfl, g2, _, _⟩
  have G2 : Hid (FsG w _ w2 bf aw1) := Lib.hid g2
  clear g2 HC G1
  go_wp2_with fail
  have gm : FsG w (fun k => w2.heap.size ≤ k ∧ k < w2.heap.size + 1) (w2.alloc (.cells #[.int .u8 120, .int .u8 121] 5 (2, 3))) bf aw1 := G2.out.more ((Below.refl _ w2).alloc (Nat.le_refl _) _) (fun k hk => Or.inr ⟨hk.1, by simp; omega⟩)
  have BL : BytesC (fun k => w2.heap.size ≤ k ∧ k < w2.heap.size + 1) (w2.alloc (.cells #[.int .u8 120, .int .u8 121] 5 (2, 3))) (.slice (some ⟨w2.heap.size, 0, none⟩) 2 2) [120, 121] := bytes_lit w2 [120, 121] (2, 3) (by decide)
  have GM := Lib.hid gm
  have HBL := Lib.hid BL
  clear gm BL
  have HC := Lib.hid (g_append GM.out aw_steps.1 [97] (by decide) _ _ [120, 121] HBL.out (fun k hk => Or.inr hk) (by decide))
  rw [show (appendS aw1 [97] [120, 121]).2 = 0 from aw_codes.2.1] at HC
  refine HC.out.mono ?_
  rintro e w3 ⟨rfl, g3, _, _⟩
  have G3 : Hid (FsG w _ w3 bf aw2) := Lib.hid g3
  clear g3 HC GM HBL G2
  go_wp2_with fail
  have HC := Lib.hid (g_sync G3.out aw_steps.2.1 [97] (by decide))
  rw [aw_codes.2.2.1] at HC
  refine HC.out.mono ?_
  rintro e w4 ⟨rfl, g4, _, _⟩
  have G4 : Hid (FsG w _ w4 bf aw3) := Lib.hid g4
  clear g4 HC G3
  go_wp2_with fail
  have HC := Lib.hid (g_flush G4.out aw_steps.2.2.1)
  rw [aw_codes.2.2.2.1] at HC
  refine HC.out.mono ?_
  rintro e w5 ⟨rfl, g5, _, _⟩
  have G5 : Hid (FsG w _ w5 bf aw4) := Lib.hid g5
  clear g5 HC G4
  go_wp2_with fail
  have HC := Lib.hid (g_rename G5.out aw_steps.2.2.2.1 HE.out [97] [98] (by decide) (by decide))
  rw [aw_codes.2.2.2.2.1] at HC
  refine HC.out.mono ?_
  rintro e w6 ⟨rfl, g6, _, _⟩
  have G6 : Hid (FsG w _ w6 bf aw5) := Lib.hid g6
  clear g6 HC G5
  go_wp2_with fail
  have gm : FsG w (fun k => w6.heap.size ≤ k ∧ k < w6.heap.size + 1) (w6.alloc (.cells #[.int .u8 122] 5 (1, 2))) bf aw5 := G6.out.more ((Below.refl _ w6).alloc (Nat.le_refl _) _) (fun k hk => Or.inr ⟨hk.1, by simp; omega⟩)
  have BL : BytesC (fun k => w6.heap.size ≤ k ∧ k < w6.heap.size + 1) (w6.alloc (.cells #[.int .u8 122] 5 (1, 2))) (.slice (some ⟨w6.heap.size, 0, none⟩) 1 1) [122] := bytes_lit w6 [122] (1, 2) (by decide)
  have GM := Lib.hid gm
  have HBL := Lib.hid BL
  clear gm BL
  have HC := Lib.hid (g_append GM.out aw_steps.2.2.2.2.1 [98] (by decide) _ _ [122] HBL.out (fun k hk => Or.inr hk) (by decide))
  rw [show (appendS aw5 [98] [122]).2 = 0 from aw_codes.2.2.2.2.2] at HC
  refine HC.out.mono ?_
  rintro e w7 ⟨rfl, g7, _, _⟩
  have G7 : Hid (FsG w _ w7 bf aw6) := Lib.hid g7
  clear g7 HC GM HBL G6
  go_wp2_with fail
  have HC := Lib.hid (g_crash G7.out aw_steps.2.2.2.2.2.1 0 0)
  refine HC.out.mono ?_
  rintro e w8 ⟨rfl, g8, _, _⟩
  have G8 : Hid (FsG w _ w8 bf aw7) := Lib.hid g8
  clear g8 HC G7
  go_wp2_with fail
  have HR : Hid (Calls Tryz.prog 21 #[.pointer (some ⟨bf, 0, none⟩), .string ⟨([97] : List UInt8).toArray⟩] w8 (ReadP w8 [120, 121] 0)) := Lib.hid (by have h := g_read G8.out [97] (by decide); rw [aw_ends.1] at h; exact h)
  refine HR.out.mono ?_
  rintro e w9 ⟨v9, rfl, o9, b9⟩
  obtain ⟨a9, c9, rfl⟩ := own_slice o9
  have O9 := Lib.hid (own_c o9)
  have B9 := Lib.hid b9
  have G9 := Lib.hid (G8.out.beside b9)
  clear o9 b9 HR
  go_wp2_with fail
  have HR : Hid (Calls Tryz.prog 21 #[.pointer (some ⟨bf, 0, none⟩), .string ⟨([98] : List UInt8).toArray⟩] w9 (ReadP w9 [] 4)) := Lib.hid (by have h := g_read G9.out [98] (by decide); rw [aw_ends.2.1] at h; exact h)
  refine HR.out.mono ?_
  rintro e w10 ⟨v10, rfl, o10, b10⟩
  have O10 := Lib.hid (O9.out.kept (S' := fun _ => True) (w' := w10) (fun k hk => ⟨trivial, b10.block k hk.2⟩))
  have G10 := Lib.hid (G9.out.beside b10)
  clear o10 b10 HR O9 G8 G9 B9
  have hcv := bytes_str O10.out
  have hl2 : ([120, 121] : List UInt8).length = 2 := rfl
  rw [hl2] at hcv
  go_wp2_with fail
  have HL := Lib.hid (g_left G10.out aw_steps.2.2.2.2.2.2)
  rw [aw_ends.2.2.1, aw_ends.2.2.2.1] at HL
  refine HL.out.mono ?_
  rintro e w11 ⟨n11, rfl, hw11⟩
  have G11 : Hid (FsG w _ w11 bf aw7) := Lib.hid (by rw [hw11]; exact G10.out.beside (drewn _ w10 n11))
  clear hw11 HL G10 hcv
  go_wp2_with fail
  have HL := Lib.hid (g_list G11.out aw_steps.2.2.2.2.2.2)
  refine HL.out.mono ?_
  rintro e w12 ⟨v12, rfl, r12, b12⟩
  have G12 := Lib.hid (G11.out.beside b12)
  obtain ⟨a12, c12, rfl⟩ : ∃ a c, v12 = .slice a 1 c := by
    have h1 : (aw7.now.map (·.1)).length = 1 := by rw [List.length_map]; exact aw_ends.2.2.2.2.1
    rcases r12.2 with ⟨e1, e2⟩ | ⟨g, cap, cur, e1, _⟩
    · omega
    · exact ⟨_, _, by rw [e1, h1]⟩
  clear r12 b12 HL G11
  go_wp2_with fail
  have HS := Lib.hid (g_steps G12.out)
  rw [aw_ends.2.2.2.2.2] at HS
  refine HS.out.mono ?_
  rintro e w13 ⟨rfl, rfl⟩
  clear HS
  go_wp2_with fail
  go_ret
  exact ⟨rfl, G12.out.below⟩
end Go.Proofs.YtjefcalndfcmdaaGreatDoor
