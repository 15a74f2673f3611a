/- A fork that stands beside the file system: what is asked of it, and that it stays. -/
import Derived.Test.YtjefcalndfcmdaaGreatDoorVhA
import Derived.Test.YtjefcalndfcmdaaGreatDoorVhH
namespace Go.Proofs.YtjefcalndfcmdaaGreatDoor
open Go.RowKit Go.Maps
/-- The first blocks of a world. -/
def cutW (w : World) (n : Nat) : World := { w with heap := w.heap.extract 0 n }
theorem cutW_size {w : World} {n : Nat} (h : n ≤ w.heap.size) : (cutW w n).heap.size = n := by unfold cutW; simp; omega
theorem cutW_below {w : World} {n : Nat} (h : n ≤ w.heap.size) : Below (cutW w n).heap.size (cutW w n) w := by
  have hs := cutW_size h
  refine ⟨rfl, rfl, rfl, by rw [hs]; exact h, fun k hk => ?_⟩
  rw [hs] at hk
  show w.heap[k]? = (w.heap.extract 0 n)[k]?
  rw [Array.getElem?_extract]
  rw [if_pos (by omega)]
  congr 1; omega
/-- A file system whose blocks all lie behind B. -/
structure FkS (B : Nat) (w : World) (bg : Nat) (p : Fs) : Prop where
  ex : ∃ X, FsAt B X w bg p
  ok : FsOk p
  sz : B ≤ w.heap.size
theorem FkS.g {B : Nat} {w : World} {bg : Nat} {p : Fs} (h : FkS B w bg p) : FsG (cutW w B) (fun k => k < B) w bg p := by
  obtain ⟨X, hX⟩ := h.ex
  have hs := cutW_size h.sz
  refine ⟨⟨X, by rw [hs]; exact hX, fun k hk => ⟨?_, by have := h.sz; omega⟩⟩, cutW_below h.sz, h.ok⟩
  cases e : X.T k with
  | no => rfl
  | _ => exact absurd (hX.dom k (by rw [e]; exact fun c => by cases c)).1 (by omega)
theorem FkS.kept {B : Nat} {w w' : World} {bg : Nat} {p : Fs} (h : FkS B w bg p) (hk : ∀ k, B ≤ k → k < w.heap.size → w'.heap[k]? = w.heap[k]?) (hs : w.heap.size ≤ w'.heap.size) : FkS B w' bg p := by
  obtain ⟨X, hX⟩ := h.ex
  exact ⟨⟨X, hX.kept (fun k ht => hk k (hX.dom k ht).1 (hX.dom k ht).2) hs⟩, h.ok, Nat.le_trans h.sz hs⟩
/-- A crash of the fork. -/
theorem FkS.crash {B : Nat} {w : World} {bg : Nat} {p : Fs} (h : FkS B w bg p) (hs : p.steps ≤ 16777214) (ca cb : Int) :
    Calls Tryz.prog 15 #[.pointer (some ⟨bg, 0, none⟩), .int .i64 ca, .int .i64 cb] w fun e w' => e = .returned (.tuple #[]) ∧ FkS B w' bg (crashS p ca cb) ∧ Below B w w' := by
  obtain ⟨X, hX⟩ := h.ex
  refine (crash_any hX h.ok hs ca cb).mono ?_
  rintro e w' ⟨rfl, X', h', hu⟩
  exact ⟨rfl, ⟨⟨X', h'⟩, crashS_ok h.ok ca cb, Nat.le_trans h.sz hu.size⟩, hu.below⟩
/-- The file system itself, while blocks beside it are written. -/
theorem FsG.apart {w0 w w' : World} {F : Nat → Prop} {bf : Nat} {s : Fs} (g : FsG w0 F w bf s) {B : Nat} (hB : ∀ k, B ≤ k → k < w.heap.size → F k) (h0 : w0.heap.size ≤ B) (hb : Below B w w') :
    FsG w0 (fun k => F k ∨ (w.heap.size ≤ k ∧ k < w'.heap.size)) w' bf s := by
  obtain ⟨X, hX, hF⟩ := g.ex
  refine ⟨⟨X, hX.kept (fun k ht => ?_) hb.size, fun k hk => ?_⟩, g.below.trans (hb.mono h0), g.ok⟩
  · refine hb.block k ?_
    rcases Nat.lt_or_ge k B with h | h
    · exact h
    · exact absurd (hF k (hB k h (hX.dom k ht).2)).1 ht
  · rcases hk with hk | hk
    · exact ⟨(hF k hk).1, Nat.lt_of_lt_of_le (hF k hk).2 hb.size⟩
    · refine ⟨?_, hk.2⟩
      cases e : X.T k with
      | no => rfl
      | _ => exact absurd (hX.dom k (by rw [e]; exact fun c => by cases c)).2 (by omega)
theorem getD_map' (b : Int) (l : List Fi) (i : Nat) : (l.map (cutF b)).getD i noFi = if i < l.length then cutF b (l.getD i noFi) else noFi := by
  by_cases h : i < l.length
  · simp [List.getD, h]
  · simp [List.getD, h]
theorem fork_agree (s : Fs) : Agree (forkS s) s := ⟨rfl, rfl, fun i => by show ((s.files.map fullF).getD i noFi).data = _; rw [fullF_at]; rfl⟩
theorem fork_crash (s : Fs) : Agree (crashS (forkS s) 0 0) s := by
  have hn : (crashS (forkS s) 0 0).now = s.now := by
    show doAll s.now (([] : List Ac).take _) = s.now
    rw [List.take_nil]; rfl
  refine ⟨hn, rfl, fun i => ?_⟩
  show (((s.files.map fullF).map (cutF 0)).getD i noFi).data = _
  rw [getD_map']
  by_cases h : i < s.files.length
  · rw [if_pos (by rw [List.length_map]; exact h), fullF_at]
    unfold cutF fullF
    dsimp only
    rw [Nat.sub_self]
    have : clampI 0 0 = 0 := by unfold clampI; rfl
    rw [this, Nat.add_zero, List.take_length]
  · rw [if_neg (by rw [List.length_map]; exact h)]
    simp [List.getD, h, noFi]
/-- A copy of the reference's file system in a box of its own. -/
theorem Pl.copy {w wE w8 : World} {F : Nat → Prop} {bf bw : Nat} {s : Fs} {vf vn vs va : Value} (gF : FsG w F wE bf s) (hc : Below wE.heap.size wE w8) (hR : FsR (fun q => F q ∧ q ≠ bw) wE vf vn vs va s) :
    Pl w (w8.alloc (.cells (fsV vf vn vs va (s.room : Int) (s.steps : Int) (lim s)) 33)) (w8.alloc (.cells (fsV vf vn vs va (s.room : Int) (s.steps : Int) (lim s)) 33)) (fun q => F q ∨ (wE.heap.size ≤ q ∧ q < w8.heap.size)) bf w8.heap.size s := by
  have g8 := gF.more hc (F' := fun q => F q ∨ (wE.heap.size ≤ q ∧ q < w8.heap.size)) (fun _ hk => hk)
  have h0 := new_five w8 (fsV vf vn vs va (s.room : Int) (s.steps : Int) (lim s)) 33
  have hz : (w8.alloc (.cells (fsV vf vn vs va (s.room : Int) (s.steps : Int) (lim s)) 33)).heap.size = w8.heap.size + 1 := by simp
  have hb := (Below.refl w8.heap.size w8).alloc (Nat.le_refl _) (.cells (fsV vf vn vs va (s.room : Int) (s.steps : Int) (lim s)) 33)
  generalize w8.alloc (.cells (fsV vf vn vs va (s.room : Int) (s.steps : Int) (lim s)) 33) = w9 at *
  have g9 := g8.more hb (F' := fun q => (F q ∨ (wE.heap.size ≤ q ∧ q < w8.heap.size)) ∨ q = w8.heap.size) (fun k hk => hk.elim Or.inl (fun e => Or.inr ⟨by omega, by omega⟩))
  refine ⟨⟨_, _, _, _, _, g9, fun q hq => Or.inl hq, Or.inr rfl, ⟨h0⟩, hR.kept (fun q hq => ⟨⟨Or.inl (Or.inl hq.1), ?_⟩, ?_⟩)⟩, fun _ _ => rfl, fun h => ?_, g8.below.size⟩
  · have h1 := gF.lt hq.1
    have h2 := hc.size
    omega
  · have h1 := gF.lt hq.1
    have h2 := hc.size
    exact (hb.block q (by omega)).trans (hc.block q h1)
  · rcases h with h | h
    · have h1 := gF.lt h
      have h2 := hc.size
      omega
    · omega
end Go.Proofs.YtjefcalndfcmdaaGreatDoor
