/- Add as one word for every outcome; the walk of awake. -/
import Derived.Test.YtfphkbbgbfnhaaaDagV
namespace Go.Proofs.Ytfphkbbgbfnhaaa
open Go.RowKit Go.Shelf Go.Maps Go.Lib Go.Sort

/-- A graph of one's own since a world. -/
structure GSt (w W : World) (bg bm : Nat) (g : Gr) : Prop where
  ex : ∃ S va D mb, GrAt w.heap.size S W bg bm va D mb g
  ps : ∀ i, (psOf g i).length ≤ 4194304
  below : Below w.heap.size w W
theorem GSt.good {w W : World} {bg bm : Nat} {g : Gr} (h : GSt w W bg bm g) : Good g := by
  obtain ⟨_, _, _, _, h⟩ := h.ex; exact h.good
theorem GSt.on {w W W' : World} {bg bm : Nat} {g : Gr} (h : GSt w W bg bm g) (hb : Below W.heap.size W W') : GSt w W' bg bm g := by
  obtain ⟨S, va, D, mb, h1⟩ := h.ex
  exact ⟨⟨S, va, D, mb, h1.below hb⟩, h.ps, h.below.trans (hb.mono h.below.size)⟩
def codeG (g : Gr) (x : Txt) (l : List Txt) : Int := if x ∈ names g then 5 else if ∀ y ∈ l, y ∈ names g then 0 else 4
theorem addS_any (S3 : Nat → Prop) (v : Value) (x : Txt) (l : List Txt) (w W : World) (bg bm : Nat) (g : Gr) (h : GSt w W bg bm g) (hS3 : ∀ k, S3 k → k < W.heap.size) (hv : StrsC S3 W v l) (hl : l.length ≤ 4194304) (hx : x.length ≤ 4194304) (hy : ∀ y ∈ l, y.length ≤ 4194304) (hlen : g.length < 65536) :
    Calls Try.prog 24 #[.pointer (some ⟨bg, 0, none⟩), .string ⟨x.toArray⟩, v] W fun e W' => e = .returned (.int .i64 (codeG g x l)) ∧ GSt w W' bg bm (addG g x l) := by
  obtain ⟨S, va, D, mb, hg⟩ := h.ex
  refine (add_any w.heap.size S S3 bg bm va v D mb g x l W hg h.below.size hS3 hv hl hx hy hlen).mono ?_
  rintro e W' (⟨h1, rfl, h2⟩ | ⟨h1, ⟨y, h3, h4⟩, rfl, h2⟩ | ⟨h1, h3, rfl, S2, va2, D2, mb2, r, h2⟩)
  · have hin := in_names.2 h1
    refine ⟨by unfold codeG; rw [if_pos hin], ?_⟩
    have e : addG g x l = g := by unfold addG; rw [if_pos (Or.inl hin)]
    rw [e]; exact h.on h2
  · have hin : x ∉ names g := fun hh => h1 (in_names.1 hh)
    have hna : ¬ ∀ y ∈ l, y ∈ names g := fun hh => h4 (in_names.1 (hh y h3))
    refine ⟨by unfold codeG; rw [if_neg hin, if_neg hna], ?_⟩
    have e : addG g x l = g := by unfold addG; rw [if_pos (Or.inr hna)]
    rw [e]; exact h.on h2
  · have hin : x ∉ names g := fun hh => h1 (in_names.1 hh)
    have hall : ∀ y ∈ l, y ∈ names g := fun y hy => in_names.2 (h3 y hy)
    refine ⟨by unfold codeG; rw [if_neg hin, if_pos hall], ?_⟩
    obtain ⟨e1, e2, e3⟩ := parents_eq hg.good h2.asc h2.mem h3
    have e : addG g x l = g ++ [⟨x, r⟩] := by unfold addG; rw [if_neg (by rintro (h | h); exact hin h; exact h hall), ← e2]
    refine ⟨⟨S2, va2, D2, mb2, by rw [e]; exact h2.gr⟩, ps_len_push h.ps hl, ⟨h2.tu.os.trans h.below.os, h2.tu.tape.trans h.below.tape, h2.tu.output.trans h.below.output, Nat.le_trans h.below.size h2.tu.size, fun k hk => (h2.tu.block k (Nat.lt_of_lt_of_le hk h.below.size) (fun hd => by have := (hg.domlt k hd).1; omega)).trans (h.below.block k hk)⟩⟩
/-- The four nodes. -/
def g4 : Gr := [⟨[97], []⟩, ⟨[98], []⟩, ⟨[120], [0, 1]⟩, ⟨[121], [0, 1]⟩]
theorem ps4 (i : Nat) : psOf g4 i = if i = 2 ∨ i = 3 then [0, 1] else [] := by
  match i with
  | 0 => rfl
  | 1 => rfl
  | 2 => rfl
  | 3 => rfl
  | (n + 4) => rw [if_neg (by omega)]; exact ps_none (by simp [g4])
theorem rch4 {i j : Nat} (h : Rch g4 i j) : i = j ∨ ((i = 2 ∨ i = 3) ∧ j < 2) := by
  induction h with
  | refl i => exact Or.inl rfl
  | step hp hr ih =>
    rename_i i j k
    rw [ps4] at hp
    split at hp
    · rename_i hi
      have hj : j < 2 := by simp at hp; omega
      rcases ih with rfl | ⟨h1, _⟩
      · exact Or.inr ⟨hi, hj⟩
      · omega
    · cases hp
theorem rch4' {i j : Nat} (hi : i = 2 ∨ i = 3) (hj : j < 2) : Rch g4 i j := by
  refine .step (j := j) ?_ (.refl _)
  rw [ps4, if_pos hi]
  have : j = 0 ∨ j = 1 := by omega
  rcases this with rfl | rfl <;> simp
theorem good4 : Good g4 := ⟨by decide, fun i hi j hj => by
  rw [ps4] at hj
  split at hj
  · simp at hj; omega
  · cases hj⟩
theorem comes4 : comesB g4 [120] [97] = true ∧ comesB g4 [97] [120] = false := by
  have e1 : idxN g4 [120] = 2 := by kernel_rfl
  have e2 : idxN g4 [97] = 0 := by kernel_rfl
  constructor
  · rw [comes_iff good4, e1, e2]
    exact ⟨by decide, by decide, rch4' (Or.inl rfl) (by omega)⟩
  · rw [← Bool.not_eq_true, comes_iff good4, e1, e2]
    rintro ⟨_, _, h⟩
    rcases rch4 h with h | h <;> omega
theorem bases4 {R : List Txt} (h : IsTips g4 (begF g4 (bothN g4 [120] [121])) R) : R = [[97], [98]] := by
  have e1 : idxN g4 [120] = 2 := by kernel_rfl
  have e2 : idxN g4 [121] = 3 := by kernel_rfl
  have hc : ∀ i, Comm g4 [120] [121] i ↔ i < 2 := fun i => by
    unfold Comm
    rw [e1, e2]
    constructor
    · rintro ⟨_, _, h1, h2⟩
      rcases rch4 h1 with h1 | h1
      · rcases rch4 h2 with h2 | h2 <;> omega
      · exact h1.2
    · intro hi; exact ⟨by decide, by decide, rch4' (Or.inl rfl) hi, rch4' (Or.inr rfl) hi⟩
  refine asc_eq h.1 (by unfold Asc; decide) (fun x => ?_)
  rw [bases_mem good4 h]
  constructor
  · rintro ⟨i, h1, rfl, h3, _⟩
    have := (hc i).1 h3
    have : i = 0 ∨ i = 1 := by omega
    rcases this with rfl | rfl <;> decide
  · intro hx
    have : x = [97] ∨ x = [98] := by simpa using hx
    rcases this with rfl | rfl
    · refine ⟨0, by decide, by kernel_rfl, (hc 0).2 (by omega), fun j hj hr => ?_⟩
      have := (hc j).1 hj
      rcases rch4 hr with h | h <;> omega
    · refine ⟨1, by decide, by kernel_rfl, (hc 1).2 (by omega), fun j hj hr => ?_⟩
      have := (hc j).1 hj
      rcases rch4 hr with h | h <;> omega
/-- A list of two texts. -/
theorem strs_two (w : World) (x y : Txt) : StrsC (fun k => w.heap.size ≤ k ∧ k < w.heap.size + 1) (w.alloc (.cells #[.string ⟨x.toArray⟩, .string ⟨y.toArray⟩] 9)) (.slice (some ⟨w.heap.size, 0, none⟩) 2 2) [x, y] :=
  row_cells w #[.string ⟨x.toArray⟩, .string ⟨y.toArray⟩] 9 2 1 rfl (by unfold maxLen; omega) (fun u hu => by simp at hu; rcases hu with rfl | rfl <;> rfl)
theorem step4_1 : addG [] [97] [] = [⟨[97], []⟩] ∧ codeG [] [97] [] = 0 := ⟨by kernel_rfl, by kernel_rfl⟩
theorem step4_2 : addG [⟨[97], []⟩] [98] [] = [⟨[97], []⟩, ⟨[98], []⟩] ∧ codeG [⟨[97], []⟩] [98] [] = 0 := ⟨by kernel_rfl, by kernel_rfl⟩
theorem step4_3 : addG [⟨[97], []⟩, ⟨[98], []⟩] [120] [[98], [97]] = [⟨[97], []⟩, ⟨[98], []⟩, ⟨[120], [0, 1]⟩] ∧ codeG [⟨[97], []⟩, ⟨[98], []⟩] [120] [[98], [97]] = 0 := ⟨by kernel_rfl, by kernel_rfl⟩
theorem step4_4 : addG [⟨[97], []⟩, ⟨[98], []⟩, ⟨[120], [0, 1]⟩] [121] [[97], [98]] = g4 ∧ codeG [⟨[97], []⟩, ⟨[98], []⟩, ⟨[120], [0, 1]⟩] [121] [[97], [98]] = 0 := ⟨by kernel_rfl, by kernel_rfl⟩
theorem step4_5 : addG g4 [120] [] = g4 ∧ codeG g4 [120] [] = 5 := ⟨by kernel_rfl, by kernel_rfl⟩
theorem step4_6 : addG g4 [122] [[122, 122]] = g4 ∧ codeG g4 [122] [[122, 122]] = 4 := ⟨by kernel_rfl, by kernel_rfl⟩
end Go.Proofs.Ytfphkbbgbfnhaaa
