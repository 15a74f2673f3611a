/- A pack over a file system; the walks of empty, Create, Name, Sync, Size, IDs. -/
import Derived.Test.YtgknihcpmpfocaaDoorPkM
import Derived.Test.YtgknihcpmpfocaaDoorPkN
import Derived.StillTailTactics
namespace Go.Proofs.YtgknihcpmpfocaaDoor
open Go.RowKit Go.Maps
attribute [local simp high] id_size id_zero

/-- A pack whose file holds the frames of these records. -/
structure PkG (w0 : World) (F T : Nat → Prop) (w : World) (bp bf : Nat) (s : Fs) (x : Nm) (all : List (List UInt8)) : Prop where
  fs : FsG w0 F w bf s
  pk : ∃ bm n D vi, PackAt w0.heap.size w bp bf bm n D vi x (idsOf all) (placeOf all) ∧ n ≤ all.length ∧ ∀ k, PkT bp bm vi k → T k
  sub : ∀ k, T k → F k ∧ w0.heap.size ≤ k
  read : readS s x = (framesL all, 0)
  xl : x.length ≤ 4194304
theorem FsG.lt {w0 w : World} {F : Nat → Prop} {bf : Nat} {s : Fs} (g : FsG w0 F w bf s) : ∀ k, F k → k < w.heap.size := fun k hk => by
  obtain ⟨X, _, hF⟩ := g.ex
  exact (hF k hk).2
theorem FsG.bfl {w0 w : World} {F : Nat → Prop} {bf : Nat} {s : Fs} (g : FsG w0 F w bf s) : w0.heap.size ≤ bf ∧ bf < w.heap.size := by
  obtain ⟨X, h, hF⟩ := g.ex
  exact h.bfB
theorem PkG.beside {w0 w w' : World} {F T : Nat → Prop} {bp bf : Nat} {s : Fs} {x : Nm} {all : List (List UInt8)} (g : PkG w0 F T w bp bf s x all) (hb : Below w.heap.size w w') : PkG w0 F T w' bp bf s x all := by
  obtain ⟨bm, n, D, vi, h1, h2, h3⟩ := g.pk
  exact ⟨g.fs.beside hb, ⟨bm, n, D, vi, h1.kept (fun k hk => hb.block k (h1.lt k hk).2), h2, h3⟩, g.sub, g.read, g.xl⟩
/-- What is new lies beside. -/
theorem PkG.more {w0 w w' : World} {F F' T : Nat → Prop} {bp bf : Nat} {s : Fs} {x : Nm} {all : List (List UInt8)} (g : PkG w0 F T w bp bf s x all) (hb : Below w.heap.size w w') (hF' : ∀ k, F' k → F k ∨ (w.heap.size ≤ k ∧ k < w'.heap.size)) (hF : ∀ k, F k → F' k) : PkG w0 F' T w' bp bf s x all := by
  obtain ⟨bm, n, D, vi, h1, h2, h3⟩ := g.pk
  exact ⟨g.fs.more hb hF', ⟨bm, n, D, vi, h1.kept (fun k hk => hb.block k (h1.lt k hk).2), h2, h3⟩, fun k hk => ⟨hF k (g.sub k hk).1, (g.sub k hk).2⟩, g.read, g.xl⟩
/-- Behind a call of the file system. -/
theorem PkG.after {w0 w w' : World} {F T : Nat → Prop} {bp bf : Nat} {s s' : Fs} {x : Nm} {all : List (List UInt8)} (g : PkG w0 F T w bp bf s x all) (h : FsG w0 F w' bf s') (hk : ∀ k, F k → w'.heap[k]? = w.heap[k]?) (hr : readS s' x = (framesL all, 0)) : PkG w0 F T w' bp bf s' x all := by
  obtain ⟨bm, n, D, vi, h1, h2, h3⟩ := g.pk
  exact ⟨h, ⟨bm, n, D, vi, h1.kept (fun k hkt => hk k (g.sub k (h3 k hkt)).1), h2, h3⟩, g.sub, hr, g.xl⟩
set_option maxRecDepth 100000 in
set_option maxHeartbeats 4000000 in
theorem empty_any (w : World) (bf : Nat) (x : Nm) (B : Nat) (hB : B ≤ w.heap.size) :
    Calls Tryd.prog 31 #[.pointer (some ⟨bf, 0, none⟩), .string ⟨x.toArray⟩] w fun e w' => e = .returned (.pointer (some ⟨w.heap.size + 1, 0, none⟩)) ∧ w'.heap.size = w.heap.size + 2 ∧ PackAt B w' (w.heap.size + 1) bf w.heap.size 0 (.map []) (.slice none 0 0) x [] (fun _ => none) ∧ Below w.heap.size w w' := by
  have hm := PMap.made w
  have hnew := new_five (w.alloc (.map #[] 0)) #[.pointer (some ⟨bf, 0, none⟩), .string ⟨x.toArray⟩, .slice none 0 0, .map (some w.heap.size)] 76
  rw [World.size_alloc] at hnew
  have H1 : Hid (PackAt B ((w.alloc (.map #[] 0)).alloc (.cells #[.pointer (some ⟨bf, 0, none⟩), .string ⟨x.toArray⟩, .slice none 0 0, .map (some w.heap.size)] 76)) (w.heap.size + 1) bf w.heap.size 0 (.map []) (.slice none 0 0) x [] (fun _ => none)) := Lib.hid ⟨hnew, World.ownsRow_nil _ _ _ _, hm.kept (Below.heap_alloc _ _ _ (by simp)), by omega, fun k hk => by simp [Value.ownBlock] at hk, ⟨by omega, hB⟩⟩
  have H2 := Lib.hid (((Below.refl w.heap.size w).alloc (Nat.le_refl _) (.map #[] 0)).alloc (by simp) (.cells #[.pointer (some ⟨bf, 0, none⟩), .string ⟨x.toArray⟩, .slice none 0 0, .map (some w.heap.size)] 76))
  have hmm := @run_makeMap Tryd.prog
  clear hm hnew
  go_enter Tryd.func31, Tryd.ntmps31
  go_wp2_with fail
  go_ret
  exact ⟨rfl, by simp, H1.out, H2.out⟩
set_option maxRecDepth 100000 in
set_option maxHeartbeats 4000000 in
theorem pname_any {B : Nat} {w : World} {bp bf bm n : Nat} {D : DataW Unit} {vi : Value} {x : Nm} {I : List (List UInt8)} {pl : List UInt8 → Option (Nat × Nat)} (h : PackAt B w bp bf bm n D vi x I pl) :
    Calls Tryd.prog 25 #[.pointer (some ⟨bp, 0, none⟩)] w fun e w' => e = .returned (.string ⟨x.toArray⟩) ∧ w = w' := by
  obtain ⟨c0, c1, c2, c3⟩ := h.cell
  clear h
  go_enter Tryd.func25, Tryd.ntmps25
  go_wp2_with fail
  go_ret
  exact ⟨rfl, rfl⟩
set_option maxRecDepth 100000 in
set_option maxHeartbeats 4000000 in
theorem psync_any {w0 w : World} {F T : Nat → Prop} {bp bf : Nat} {s : Fs} {x : Nm} {all : List (List UInt8)} (g : PkG w0 F T w bp bf s x all) (hs : s.steps ≤ 16777214) :
    Calls Tryd.prog 22 #[.pointer (some ⟨bp, 0, none⟩)] w fun e w' => e = .returned (.int .i64 (syncS s x).2) ∧ PkG w0 F T w' bp bf (syncS s x).1 x all ∧ w.heap.size ≤ w'.heap.size ∧ ∀ k, F k → w'.heap[k]? = w.heap[k]? := by
  obtain ⟨bm, n, D, vi, h, hn, hT⟩ := g.pk
  have hd : Below w.heap.size w w.drew := ⟨rfl, rfl, rfl, Nat.le_refl _, fun _ _ => rfl⟩
  have G := Lib.hid (g.beside hd)
  have HC := Lib.hid (g_sync (g.fs.beside hd) hs x g.xl)
  obtain ⟨c0, c1, c2, c3⟩ := (h.kept (w' := w.drew) (fun _ _ => rfl)).cell
  have HR := Lib.hid (syncS_read g.fs.ok g.read).1
  clear h hT g hd
  go_enter Tryd.func22, Tryd.ntmps22
  go_upto_region 1 with fail
  go_still_tail 8, (by kernel_rfl)
  change wpList _ _ _ _ _ w.drew
  go_wp2_with fail
  refine HC.out.mono ?_
  rintro e w' ⟨rfl, h1, h2, h3⟩
  have H1 := Lib.hid (G.out.after h1 h3 HR.out)
  have H3 := Lib.hid h3
  have H2 := Lib.hid h2
  clear h1 h2 h3
  go_wp2_with fail
  go_ret
  exact ⟨rfl, H1.out, H2.out, H3.out⟩
set_option maxRecDepth 100000 in
set_option maxHeartbeats 4000000 in
theorem psize_any {w0 w : World} {F T : Nat → Prop} {bp bf : Nat} {s : Fs} {x : Nm} {all : List (List UInt8)} (g : PkG w0 F T w bp bf s x all) :
    Calls Tryd.prog 14 #[.pointer (some ⟨bp, 0, none⟩)] w fun e w' => e = .returned (.int .i64 ((framesL all).length : Int)) ∧ Below w.heap.size w w' := by
  obtain ⟨bm, n, D, vi, h, hn, hT⟩ := g.pk
  have hd : Below w.heap.size w w.drew := ⟨rfl, rfl, rfl, Nat.le_refl _, fun _ _ => rfl⟩
  have hc := g_read (g.fs.beside hd) x g.xl
  rw [g.read] at hc
  have HC := Lib.hid hc
  obtain ⟨c0, c1, c2, c3⟩ := (h.kept (w' := w.drew) (fun _ _ => rfl)).cell
  clear h hT g hd hc
  go_enter Tryd.func14, Tryd.ntmps14
  go_upto_region 1 with fail
  go_region_with (go_at_call 19; refine HC.out.mono ?_; rintro e w' ⟨v, rfl, h1, h2⟩; obtain ⟨a, c, rfl⟩ := own_slice h1; have H2 := Lib.hid h2; clear h1 h2)
  all_goals
    go_wp2_with fail
    go_ret
    exact ⟨rfl, ⟨H2.out.os, H2.out.tape, H2.out.output, H2.out.size, H2.out.block⟩⟩
end Go.Proofs.YtgknihcpmpfocaaDoor
