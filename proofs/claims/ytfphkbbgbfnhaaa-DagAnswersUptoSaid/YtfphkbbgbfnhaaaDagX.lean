/- The walk of awake. -/
import Derived.Test.YtfphkbbgbfnhaaaDagW
namespace Go.Proofs.Ytfphkbbgbfnhaaa
open Go.RowKit Go.Shelf Go.Maps Go.Lib Go.Sort

def TrueP (w : World) (e : Ending) (w' : World) : Prop := e = .returned (.bool true) ∧ Below w.heap.size w w'
theorem add4 (S3 : Nat → Prop) (v : Value) (x : Txt) (l : List Txt) (w W : World) (bg bm : Nat) (g g' : Gr) (c : Int) (h : GSt w W bg bm g) (hs : addG g x l = g' ∧ codeG g x l = c) (hS3 : ∀ k, S3 k → k < W.heap.size) (hv : StrsC S3 W v l) (hx : x.length ≤ 4194304) (hl : l.length ≤ 4194304) (hy : ∀ y ∈ l, y.length ≤ 4194304) (hlen : g.length < 65536) :
    Calls Try.prog 24 #[.pointer (some ⟨bg, 0, none⟩), .string ⟨x.toArray⟩, v] W fun e W' => e = .returned (.int .i64 c) ∧ GSt w W' bg bm g' := by
  have := addS_any S3 v x l w W bg bm g h hS3 hv hl hx hy hlen
  rw [hs.1, hs.2] at this; exact this
theorem GSt.comes {w W : World} {bg bm : Nat} {g : Gr} (h : GSt w W bg bm g) {x y : Txt} (hx : x.length ≤ 4194304) (hy : y.length ≤ 4194304) :
    Calls Try.prog 16 #[.pointer (some ⟨bg, 0, none⟩), .string ⟨x.toArray⟩, .string ⟨y.toArray⟩] W fun e w' => e = .returned (.bool (comesB g x y)) ∧ Below W.heap.size W w' := by
  obtain ⟨S, va, D, mb, h1⟩ := h.ex
  exact comes_any _ S bg bm va D mb g x y W h1 hx hy
theorem GSt.bases {w W : World} {bg bm : Nat} {g : Gr} (h : GSt w W bg bm g) {x y : Txt} (hx : x.length ≤ 4194304) (hy : y.length ≤ 4194304) :
    Calls Try.prog 18 #[.pointer (some ⟨bg, 0, none⟩), .string ⟨x.toArray⟩, .string ⟨y.toArray⟩] W fun e w' => ∃ v' R, e = .returned v' ∧ OwnS w' W.heap.size v' R ∧ IsTips g (begF g (bothN g x y)) R ∧ R.length ≤ g.length ∧ Below W.heap.size W w' := by
  obtain ⟨S, va, D, mb, h1⟩ := h.ex
  exact bases_any _ S bg bm va D mb g x y W h1 hx hy
theorem GSt.tips {w W : World} {bg bm : Nat} {g : Gr} (h : GSt w W bg bm g) {S2 : Nat → Prop} {v : Value} {l : List Txt} (hS2 : ∀ k, S2 k → k < W.heap.size) (hv : StrsC S2 W v l) (hl : l.length ≤ 4194304) (hx : ∀ x ∈ l, x.length ≤ 4194304) :
    Calls Try.prog 20 #[.pointer (some ⟨bg, 0, none⟩), v] W fun e w' => ∃ v' R, e = .returned v' ∧ OwnS w' W.heap.size v' R ∧ IsTips g (begF g l) R ∧ R.length ≤ g.length ∧ Below W.heap.size W w' := by
  obtain ⟨S, va, D, mb, h1⟩ := h.ex
  exact tips_any _ S S2 bg bm va v D mb g l W h1 hS2 hv hl hx
theorem GSt.missing {w W : World} {bg bm : Nat} {g : Gr} (h : GSt w W bg bm g) {S2 S3 : Nat → Prop} {v v2 : Value} {l m : List Txt} (hS2 : ∀ k, S2 k → k < W.heap.size) (hv : StrsC S2 W v l) (hl : l.length ≤ 4194304) (hx : ∀ x ∈ l, x.length ≤ 4194304)
    (hS3 : ∀ k, S3 k → k < W.heap.size) (hv2 : StrsC S3 W v2 m) (hm : m.length ≤ 4194304) (hy : ∀ x ∈ m, x.length ≤ 4194304) :
    Calls Try.prog 22 #[.pointer (some ⟨bg, 0, none⟩), v, v2] W fun e w' => ∃ v', e = .returned v' ∧ OwnS w' W.heap.size v' (missN g l m) ∧ Below W.heap.size W w' := by
  obtain ⟨S, va, D, mb, h1⟩ := h.ex
  exact missing_any _ S S2 S3 bg bm va v v2 D mb g l m W h1 hS2 hv hl hx hS3 hv2 hm hy
theorem GSt.ancestors {w W : World} {bg bm : Nat} {g : Gr} (h : GSt w W bg bm g) {S2 : Nat → Prop} {v : Value} {l : List Txt} (hS2 : ∀ k, S2 k → k < W.heap.size) (hv : StrsC S2 W v l) (hl : l.length ≤ 4194304) (hx : ∀ x ∈ l, x.length ≤ 4194304) :
    Calls Try.prog 14 #[.pointer (some ⟨bg, 0, none⟩), v] W fun e w' => ∃ v', e = .returned v' ∧ OwnS w' W.heap.size v' (missN g l []) ∧ Below W.heap.size W w' := by
  obtain ⟨S, va, D, mb, h1⟩ := h.ex
  exact ancestors_any _ S S2 bg bm va v D mb g l W h1 hS2 hv hl hx
theorem GSt.parents {w W : World} {bg bm : Nat} {g : Gr} (h : GSt w W bg bm g) {x : Txt} (hx : x.length ≤ 4194304) :
    Calls Try.prog 13 #[.pointer (some ⟨bg, 0, none⟩), .string ⟨x.toArray⟩] W fun e w' => ∃ v', e = .returned v' ∧ OwnS w' W.heap.size v' (parN g x) ∧ Below W.heap.size W w' := by
  obtain ⟨S, va, D, mb, h1⟩ := h.ex
  exact parents_any _ S bg bm va D mb g x W h1 hx h.ps
theorem GSt.len {w W : World} {bg bm : Nat} {g : Gr} (h : GSt w W bg bm g) :
    Calls Try.prog 26 #[.pointer (some ⟨bg, 0, none⟩)] W fun e w' => e = .returned (.int .i64 (g.length : Int)) ∧ W = w' := by
  obtain ⟨S, va, D, mb, h1⟩ := h.ex
  exact len_any h1
set_option maxRecDepth 100000 in
set_option maxHeartbeats 8000000 in
theorem awake_any (w : World) : Calls Try.prog 9 #[] w (TrueP w) := by
  unfold TrueP
  go_enter Try.func9, Try.ntmps9
  go_wp2_with fail
  refine (new_any w).mono ?_
  rintro e w1 ⟨bg, bm, S, rfl, g1, b1⟩
  have G1 : Hid (GSt w w1 bg bm []) := Lib.hid ⟨⟨_, _, _, _, g1⟩, fun i => by simp [psOf], b1⟩
  clear g1 b1
  go_wp2_with fail
  refine (add4 (fun _ => False) _ [97] [] w w1 bg bm [] _ 0 G1.out step4_1 (fun k h => h.elim) (CellsC.nil _ _ none 0 1) (by simp) (by simp) (by simp) (by simp)).mono ?_
  rintro e w2 ⟨rfl, g2⟩
  have G2 := Lib.hid g2
  clear g2
  go_wp2_with fail
  refine (add4 (fun _ => False) _ [98] [] w w2 bg bm _ _ 0 G2.out step4_2 (fun k h => h.elim) (CellsC.nil _ _ none 0 1) (by simp) (by simp) (by simp) (by simp)).mono ?_
  rintro e w3 ⟨rfl, g3⟩
  have G3 := Lib.hid g3
  clear g3
  go_wp2_with fail
  refine (add4 (fun k => w3.heap.size ≤ k ∧ k < w3.heap.size + 1) _ [120] [[98], [97]] w (w3.alloc _) bg bm _ _ 0 (G3.out.on ((Below.refl _ w3).alloc (Nat.le_refl _) _)) step4_3 (fun k h => by simp; exact h.2) (strs_two w3 [98] [97]) (by simp) (by simp) (by simp) (by simp)).mono ?_
  rintro e w4 ⟨rfl, g4⟩
  have G4 := Lib.hid g4
  clear g4
  go_wp2_with fail
  refine (add4 (fun k => w4.heap.size ≤ k ∧ k < w4.heap.size + 1) _ [121] [[97], [98]] w (w4.alloc _) bg bm _ _ 0 (G4.out.on ((Below.refl _ w4).alloc (Nat.le_refl _) _)) step4_4 (fun k h => by simp; exact h.2) (strs_two w4 [97] [98]) (by simp) (by simp) (by simp) (by simp)).mono ?_
  rintro e w5 ⟨rfl, g5⟩
  have G5 := Lib.hid g5
  clear g5
  go_wp2_with fail
  refine (add4 (fun _ => False) _ [120] [] w w5 bg bm _ _ 5 G5.out step4_5 (fun k h => h.elim) (CellsC.nil _ _ none 0 1) (by simp) (by simp) (by simp) (by simp [g4])).mono ?_
  rintro e w6 ⟨rfl, g6⟩
  have G6 := Lib.hid g6
  clear g6
  go_wp2_with fail
  refine (add4 (fun k => w6.heap.size ≤ k ∧ k < w6.heap.size + 1) _ [122] [[122, 122]] w (w6.alloc _) bg bm _ _ 4 (G6.out.on ((Below.refl _ w6).alloc (Nat.le_refl _) _)) step4_6 (fun k h => by simp; exact h.2) (strs_one w6 [122, 122]) (by simp) (by simp) (by simp) (by simp [g4])).mono ?_
  rintro e w7 ⟨rfl, g7⟩
  have G7 := Lib.hid g7
  clear g7
  go_wp2_with fail
  refine (G7.out.bases (x := [120]) (y := [121]) (by simp) (by simp)).mono ?_
  rintro e w8 ⟨v8, R, rfl, o8, t8, _, b8⟩
  obtain rfl := bases4 t8
  have G8 := Lib.hid (G7.out.on b8)
  have C8 := ownS_c o8
  obtain ⟨a8, n8, rfl⟩ := ownS_slice o8
  obtain ⟨q, o, rfl, _, k1, _, hc⟩ := C8.at (by simp)
  have c0 : w8.cell? ⟨q, o, none⟩ = some (.string ⟨#[97]⟩) := hc 0 (by simp)
  have B8 : Hid (Below w.heap.size w w8) := Lib.hid (G8.out.below)
  have gc := comes4
  have HC1 := Lib.hid (fun W (h : GSt w W bg bm g4) => (h.comes (x := [120]) (y := [97]) (by simp) (by simp)))
  have HC2 := Lib.hid (fun W (h : GSt w W bg bm g4) => (h.comes (x := [97]) (y := [120]) (by simp) (by simp)))
  rw [gc.1] at HC1
  rw [gc.2] at HC2
  clear t8 o8 b8 C8 hc gc k1
  go_wp2_with fail
  refine (HC1.out w8 G8.out).mono ?_
  rintro e w9 ⟨rfl, b9⟩
  have G9 := Lib.hid (G8.out.on b9)
  clear b9
  go_wp2_with fail
  refine (HC2.out w9 G9.out).mono ?_
  rintro e w10 ⟨rfl, b10⟩
  have G10 := Lib.hid (G9.out.on b10)
  clear b10
  go_wp2_with fail
  refine (G10.out.len).mono ?_
  rintro e w11 ⟨rfl, rfl⟩
  go_wp2_with fail
  go_ret
  exact ⟨rfl, G10.out.below⟩
end Go.Proofs.Ytfphkbbgbfnhaaa
