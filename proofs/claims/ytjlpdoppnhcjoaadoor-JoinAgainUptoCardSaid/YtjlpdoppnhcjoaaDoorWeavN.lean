/- The walk of part. -/
import Derived.Test.YtjlpdoppnhcjoaaDoorWeavM
namespace Go.Proofs.YtjlpdoppnhcjoaaDoor
open Go.RowKit

/-- What is left of three lists, in three cells. -/
def RestAt (S : Nat → Prop) (w : World) (rb : Nat) (a b c : List (List UInt8)) : Prop :=
  ∃ va vb vc, w.cell? ⟨rb, 0, none⟩ = some va ∧ w.cell? ⟨rb, 1, none⟩ = some vb ∧ w.cell? ⟨rb, 2, none⟩ = some vc ∧ (∀ j, w.frozen? ⟨rb, j, none⟩ = false) ∧ StrsC S w va a ∧ StrsC S w vb b ∧ StrsC S w vc c
theorem RestAt.kept {S : Nat → Prop} {w w' : World} {rb : Nat} {a b c : List (List UInt8)} (h : RestAt S w rb a b c) (h0 : w'.heap[rb]? = w.heap[rb]?) (hk : ∀ k, S k → w'.heap[k]? = w.heap[k]?) : RestAt S w' rb a b c := by
  obtain ⟨va, vb, vc, h1, h2, h3, h4, h5, h6, h7⟩ := h
  exact ⟨va, vb, vc, (World.cell?_of_block (w := w) (a := ⟨rb, 0, none⟩) h0).trans h1, (World.cell?_of_block (w := w) (a := ⟨rb, 1, none⟩) h0).trans h2, (World.cell?_of_block (w := w) (a := ⟨rb, 2, none⟩) h0).trans h3,
    fun j => (World.frozen?_of_block (w := w) (a := ⟨rb, j, none⟩) h0).trans (h4 j), h5.kept (fun k hS => ⟨hS, hk k hS⟩), h6.kept (fun k hS => ⟨hS, hk k hS⟩), h7.kept (fun k hS => ⟨hS, hk k hS⟩)⟩
/-- What cut leaves of three lists. -/
def Cut3 (S : Nat → Prop) (rb : Nat) (w : World) (t a b c : List (List UInt8)) (e : Ending) (w' : World) : Prop :=
  ∃ v, e = .returned v ∧ OwnS w' w.heap.size v t ∧ RestAt S w' rb a b c ∧ Spares (fun k => k = rb) w w'
theorem cut3_end {rb ro : Nat} {w w1 : World} {t : List (List UInt8)} {v v2 : Value} (hrb : rb < w.heap.size) (ho : OwnS w1 w.heap.size v t) (hb : Below w.heap.size w w1) :
    OwnS (w1.setCell ⟨rb, ro, none⟩ v2) w.heap.size v t ∧ Spares (fun k => k = rb) w (w1.setCell ⟨rb, ro, none⟩ v2) :=
  ⟨ownS_kept ho (fun k e => Below.heap_setCell _ _ _ _ (fun e2 => by have := (ownS_lt ho k e).1; simp only at e2; omega)), (Spares.of_below hb _).trans (Spares.of_set (fun k => k = rb) w1 rb ro v2 rfl) (fun _ _ h => h)⟩
theorem cut_at0 (S : Nat → Prop) (rb : Nat) (a b c : List (List UInt8)) (n : Nat) (w : World) (hS : ∀ k, S k → k < w.heap.size) (hne : ∀ k, S k → k ≠ rb) (hrb : rb < w.heap.size) (hr : RestAt S w rb a b c) (hn : n ≤ a.length) (hl : a.length ≤ 4194304) :
    Calls Tryd.prog 79 #[.pointer (some ⟨rb, 0, none⟩), .int .i64 (n : Int)] w (Cut3 S rb w (a.take n) (a.drop n) b c) := by
  obtain ⟨va, vb, vc, h1, h2, h3, h4, h5, h6, h7⟩ := hr
  refine (cut_any S rb 0 va a n w hS hrb h1 (h4 0) h5 hn hl).mono ?_
  rintro e w' ⟨v, v2, w1, rfl, rfl, ho, hs2, hb⟩
  obtain ⟨e1, e2⟩ := cut3_end (ro := 0) (v2 := v2) hrb ho hb
  refine ⟨v, rfl, e1, ⟨v2, vb, vc, World.cell?_setCell_same _ _ _ ((World.cell?_of_block (w := w) (a := ⟨rb, 0, none⟩) (hb.block rb hrb)).trans h1), (World.cell?_setCell_other _ _ _ _ (by simp)).trans ((World.cell?_of_block (w := w) (a := ⟨rb, 1, none⟩) (hb.block rb hrb)).trans h2), (World.cell?_setCell_other _ _ _ _ (by simp)).trans ((World.cell?_of_block (w := w) (a := ⟨rb, 2, none⟩) (hb.block rb hrb)).trans h3), fun j => ?_, hs2.kept (fun k hk => ⟨hk, Below.heap_setCell _ _ _ _ (fun e3 => hne k hk (by simpa using e3))⟩), h6.kept (fun k hk => ⟨hk, (Below.heap_setCell _ _ _ _ (fun e3 => hne k hk (by simpa using e3))).trans (hb.block k (hS k hk))⟩), h7.kept (fun k hk => ⟨hk, (Below.heap_setCell _ _ _ _ (fun e3 => hne k hk (by simpa using e3))).trans (hb.block k (hS k hk))⟩)⟩, e2⟩
  rw [World.frozen?_setCell]
  exact (World.frozen?_of_block (w := w) (a := ⟨rb, j, none⟩) (hb.block rb hrb)).trans (h4 j)
theorem cut_at1 (S : Nat → Prop) (rb : Nat) (a b c : List (List UInt8)) (n : Nat) (w : World) (hS : ∀ k, S k → k < w.heap.size) (hne : ∀ k, S k → k ≠ rb) (hrb : rb < w.heap.size) (hr : RestAt S w rb a b c) (hn : n ≤ b.length) (hl : b.length ≤ 4194304) :
    Calls Tryd.prog 79 #[.pointer (some ⟨rb, 1, none⟩), .int .i64 (n : Int)] w (Cut3 S rb w (b.take n) a (b.drop n) c) := by
  obtain ⟨va, vb, vc, h1, h2, h3, h4, h5, h6, h7⟩ := hr
  refine (cut_any S rb 1 vb b n w hS hrb h2 (h4 1) h6 hn hl).mono ?_
  rintro e w' ⟨v, v2, w1, rfl, rfl, ho, hs2, hb⟩
  obtain ⟨e1, e2⟩ := cut3_end (ro := 1) (v2 := v2) hrb ho hb
  refine ⟨v, rfl, e1, ⟨va, v2, vc, (World.cell?_setCell_other _ _ _ _ (by simp)).trans ((World.cell?_of_block (w := w) (a := ⟨rb, 0, none⟩) (hb.block rb hrb)).trans h1), World.cell?_setCell_same _ _ _ ((World.cell?_of_block (w := w) (a := ⟨rb, 1, none⟩) (hb.block rb hrb)).trans h2), (World.cell?_setCell_other _ _ _ _ (by simp)).trans ((World.cell?_of_block (w := w) (a := ⟨rb, 2, none⟩) (hb.block rb hrb)).trans h3), fun j => ?_, h5.kept (fun k hk => ⟨hk, (Below.heap_setCell _ _ _ _ (fun e3 => hne k hk (by simpa using e3))).trans (hb.block k (hS k hk))⟩), hs2.kept (fun k hk => ⟨hk, Below.heap_setCell _ _ _ _ (fun e3 => hne k hk (by simpa using e3))⟩), h7.kept (fun k hk => ⟨hk, (Below.heap_setCell _ _ _ _ (fun e3 => hne k hk (by simpa using e3))).trans (hb.block k (hS k hk))⟩)⟩, e2⟩
  rw [World.frozen?_setCell]
  exact (World.frozen?_of_block (w := w) (a := ⟨rb, j, none⟩) (hb.block rb hrb)).trans (h4 j)
theorem cut_at2 (S : Nat → Prop) (rb : Nat) (a b c : List (List UInt8)) (n : Nat) (w : World) (hS : ∀ k, S k → k < w.heap.size) (hne : ∀ k, S k → k ≠ rb) (hrb : rb < w.heap.size) (hr : RestAt S w rb a b c) (hn : n ≤ c.length) (hl : c.length ≤ 4194304) :
    Calls Tryd.prog 79 #[.pointer (some ⟨rb, 2, none⟩), .int .i64 (n : Int)] w (Cut3 S rb w (c.take n) a b (c.drop n)) := by
  obtain ⟨va, vb, vc, h1, h2, h3, h4, h5, h6, h7⟩ := hr
  refine (cut_any S rb 2 vc c n w hS hrb h3 (h4 2) h7 hn hl).mono ?_
  rintro e w' ⟨v, v2, w1, rfl, rfl, ho, hs2, hb⟩
  obtain ⟨e1, e2⟩ := cut3_end (ro := 2) (v2 := v2) hrb ho hb
  refine ⟨v, rfl, e1, ⟨va, vb, v2, (World.cell?_setCell_other _ _ _ _ (by simp)).trans ((World.cell?_of_block (w := w) (a := ⟨rb, 0, none⟩) (hb.block rb hrb)).trans h1), (World.cell?_setCell_other _ _ _ _ (by simp)).trans ((World.cell?_of_block (w := w) (a := ⟨rb, 1, none⟩) (hb.block rb hrb)).trans h2), World.cell?_setCell_same _ _ _ ((World.cell?_of_block (w := w) (a := ⟨rb, 2, none⟩) (hb.block rb hrb)).trans h3), fun j => ?_, h5.kept (fun k hk => ⟨hk, (Below.heap_setCell _ _ _ _ (fun e3 => hne k hk (by simpa using e3))).trans (hb.block k (hS k hk))⟩), h6.kept (fun k hk => ⟨hk, (Below.heap_setCell _ _ _ _ (fun e3 => hne k hk (by simpa using e3))).trans (hb.block k (hS k hk))⟩), hs2.kept (fun k hk => ⟨hk, Below.heap_setCell _ _ _ _ (fun e3 => hne k hk (by simpa using e3))⟩)⟩, e2⟩
  rw [World.frozen?_setCell]
  exact (World.frozen?_of_block (w := w) (a := ⟨rb, j, none⟩) (hb.block rb hrb)).trans (h4 j)
/-- What part leaves. -/
def PartP (S : Nat → Prop) (rb : Nat) (w : World) (i j k : Nat) (a b c : List (List UInt8)) (e : Ending) (w' : World) : Prop :=
  ∃ v1 v2 v3, e = .returned (.agg #[.int .i64 (kindN (a.take i) (b.take j) (c.take k)), v1, v2, v3]) ∧ PartO (fun q => w.heap.size ≤ q ∧ q < w'.heap.size) w' w.heap.size v1 v2 v3 (a.take i) (b.take j) (c.take k) ∧ RestAt S w' rb (a.drop i) (b.drop j) (c.drop k) ∧ Spares (fun q => q = rb) w w'
/-- Rows of one's own, the last one first, each above those ahead of it. -/
def News (W : World) (B : Nat) : Nat → List (Value × List (List UInt8)) → Prop
  | hi, [] => B ≤ hi
  | hi, x :: r => ∃ lo, lo ≤ hi ∧ OwnS W lo x.1 x.2 ∧ (∀ q, x.1.ownBlock = some q → q < hi) ∧ News W B lo r
theorem News.low {W : World} {B : Nat} : ∀ {xs : List (Value × List (List UInt8))} {hi : Nat}, News W B hi xs → B ≤ hi
  | [], _, h => h
  | _ :: _, _, ⟨_, h1, _, _, h4⟩ => Nat.le_trans h4.low h1
theorem News.on {W W' : World} {B rb : Nat} (hrb : rb < B) (hs : Spares (fun q => q = rb) W W') : ∀ {xs : List (Value × List (List UInt8))} {hi hi' : Nat}, News W B hi xs → hi ≤ hi' → News W' B hi' xs
  | [], _, _, h, h' => Nat.le_trans h h'
  | x :: _, _, _, ⟨lo, h1, h2, h3, h4⟩, h' => ⟨lo, Nat.le_trans h1 h', ownS_kept h2 (fun k e => by
      have k1 := ownS_lt h2 k e
      have k2 := h4.low
      exact hs.block k k1.2 (fun e2 => by omega)), fun q e => Nat.lt_of_lt_of_le (h3 q e) h', News.on hrb hs h4 (Nat.le_refl _)⟩
structure PSt (S : Nat → Prop) (rb r8 : Nat) (w W : World) (a b c : List (List UInt8)) (xs : List (Value × List (List UInt8))) : Prop where
  rest : RestAt S W rb a b c
  sp : Spares (fun q => q = rb) w W
  news : News W (r8 + 1) W.heap.size xs
  res : W.heap[r8]? = some (.cells #[.int .i64 0, .slice none 0 0, .slice none 0 0, .slice none 0 0] 134 (0, 0))
  low : w.heap.size ≤ r8
  high : r8 < W.heap.size
theorem PSt.on {S : Nat → Prop} {rb r8 : Nat} {w W W' : World} {a b c : List (List UInt8)} {xs : List (Value × List (List UInt8))} (h : PSt S rb r8 w W a b c xs) (hS : ∀ k, S k → k < w.heap.size) (hne : ∀ k, S k → k ≠ rb) (hrb : rb < w.heap.size) (hs : Spares (fun q => q = rb) W W') (h0 : W'.heap[rb]? = W.heap[rb]?) : PSt S rb r8 w W' a b c xs :=
  ⟨h.rest.kept h0 (fun k hk => hs.block k (Nat.lt_of_lt_of_le (hS k hk) h.sp.size) (hne k hk)), h.sp.trans hs (fun _ _ e => e), h.news.on (by have := h.low; omega) hs hs.size, (hs.block r8 h.high (fun e => by have := h.low; omega)).trans h.res, h.low, Nat.lt_of_lt_of_le h.high hs.size⟩
theorem PSt.cut0 {S : Nat → Prop} {rb r8 : Nat} {w W : World} {a b c : List (List UInt8)} {xs : List (Value × List (List UInt8))} (h : PSt S rb r8 w W a b c xs) (n : Nat) (hS : ∀ k, S k → k < w.heap.size) (hne : ∀ k, S k → k ≠ rb) (hrb : rb < w.heap.size) (hn : n ≤ a.length) (hl : a.length ≤ 4194304) :
    Calls Tryd.prog 79 #[.pointer (some ⟨rb, 0, none⟩), .int .i64 (n : Int)] W fun e W' => ∃ v, e = .returned v ∧ PSt S rb r8 w W' (a.drop n) b c ((v, a.take n) :: xs) ∧ Spares (fun q => q = rb) W W' ∧ (∀ q, v.ownBlock = some q → W.heap.size ≤ q) ∧ ∃ aa cc, v = .slice aa n cc := by
  have hsz := h.sp.size
  refine (cut_at0 S rb a b c n W (fun k hk => Nat.lt_of_lt_of_le (hS k hk) hsz) hne (Nat.lt_of_lt_of_le hrb hsz) h.rest hn hl).mono ?_
  rintro e W' ⟨v, rfl, ho, hr, hs⟩
  exact ⟨v, rfl, ⟨hr, h.sp.trans hs (fun _ _ e => e), ⟨W.heap.size, hs.size, ho, fun q e => (ownS_lt ho q e).2, h.news.on (by have := h.low; omega) hs (Nat.le_refl _)⟩, (hs.block r8 h.high (fun e => by have := h.low; omega)).trans h.res, h.low, Nat.lt_of_lt_of_le h.high hs.size⟩, hs, fun q e => (ownS_lt ho q e).1, by
    obtain ⟨aa, cc, e⟩ := ownS_slice ho
    exact ⟨aa, cc, by rw [e, List.length_take, Nat.min_eq_left hn]⟩⟩
theorem PSt.cut1 {S : Nat → Prop} {rb r8 : Nat} {w W : World} {a b c : List (List UInt8)} {xs : List (Value × List (List UInt8))} (h : PSt S rb r8 w W a b c xs) (n : Nat) (hS : ∀ k, S k → k < w.heap.size) (hne : ∀ k, S k → k ≠ rb) (hrb : rb < w.heap.size) (hn : n ≤ b.length) (hl : b.length ≤ 4194304) :
    Calls Tryd.prog 79 #[.pointer (some ⟨rb, 1, none⟩), .int .i64 (n : Int)] W fun e W' => ∃ v, e = .returned v ∧ PSt S rb r8 w W' a (b.drop n) c ((v, b.take n) :: xs) ∧ Spares (fun q => q = rb) W W' ∧ (∀ q, v.ownBlock = some q → W.heap.size ≤ q) ∧ ∃ aa cc, v = .slice aa n cc := by
  have hsz := h.sp.size
  refine (cut_at1 S rb a b c n W (fun k hk => Nat.lt_of_lt_of_le (hS k hk) hsz) hne (Nat.lt_of_lt_of_le hrb hsz) h.rest hn hl).mono ?_
  rintro e W' ⟨v, rfl, ho, hr, hs⟩
  exact ⟨v, rfl, ⟨hr, h.sp.trans hs (fun _ _ e => e), ⟨W.heap.size, hs.size, ho, fun q e => (ownS_lt ho q e).2, h.news.on (by have := h.low; omega) hs (Nat.le_refl _)⟩, (hs.block r8 h.high (fun e => by have := h.low; omega)).trans h.res, h.low, Nat.lt_of_lt_of_le h.high hs.size⟩, hs, fun q e => (ownS_lt ho q e).1, by
    obtain ⟨aa, cc, e⟩ := ownS_slice ho
    exact ⟨aa, cc, by rw [e, List.length_take, Nat.min_eq_left hn]⟩⟩
theorem PSt.cut2 {S : Nat → Prop} {rb r8 : Nat} {w W : World} {a b c : List (List UInt8)} {xs : List (Value × List (List UInt8))} (h : PSt S rb r8 w W a b c xs) (n : Nat) (hS : ∀ k, S k → k < w.heap.size) (hne : ∀ k, S k → k ≠ rb) (hrb : rb < w.heap.size) (hn : n ≤ c.length) (hl : c.length ≤ 4194304) :
    Calls Tryd.prog 79 #[.pointer (some ⟨rb, 2, none⟩), .int .i64 (n : Int)] W fun e W' => ∃ v, e = .returned v ∧ PSt S rb r8 w W' a b (c.drop n) ((v, c.take n) :: xs) ∧ Spares (fun q => q = rb) W W' ∧ (∀ q, v.ownBlock = some q → W.heap.size ≤ q) ∧ ∃ aa cc, v = .slice aa n cc := by
  have hsz := h.sp.size
  refine (cut_at2 S rb a b c n W (fun k hk => Nat.lt_of_lt_of_le (hS k hk) hsz) hne (Nat.lt_of_lt_of_le hrb hsz) h.rest hn hl).mono ?_
  rintro e W' ⟨v, rfl, ho, hr, hs⟩
  exact ⟨v, rfl, ⟨hr, h.sp.trans hs (fun _ _ e => e), ⟨W.heap.size, hs.size, ho, fun q e => (ownS_lt ho q e).2, h.news.on (by have := h.low; omega) hs (Nat.le_refl _)⟩, (hs.block r8 h.high (fun e => by have := h.low; omega)).trans h.res, h.low, Nat.lt_of_lt_of_le h.high hs.size⟩, hs, fun q e => (ownS_lt ho q e).1, by
    obtain ⟨aa, cc, e⟩ := ownS_slice ho
    exact ⟨aa, cc, by rw [e, List.length_take, Nat.min_eq_left hn]⟩⟩
theorem News.part {W : World} {B : Nat} {v1 v2 v3 : Value} {t1 t2 t3 : List (List UInt8)} (h : News W B W.heap.size [(v3, t3), (v2, t2), (v1, t1)]) : PartO (fun q => B ≤ q ∧ q < W.heap.size) W B v1 v2 v3 t1 t2 t3 := by
  obtain ⟨l3, a1, a2, a3, l2, b1, b2, b3, l1, c1, c2, c3, d⟩ := h
  have d : B ≤ l1 := d
  have g1 := fun k e => (ownS_lt c2 k e).1
  have g2 := fun k e => (ownS_lt b2 k e).1
  have g3 := fun k e => (ownS_lt a2 k e).1
  refine ⟨own_base c2 d, own_base b2 (by omega), own_base a2 (by omega), fun k e => ?_, fun k e => ?_, fun k e => ?_, fun k e e2 => ?_, fun k e e2 => ?_, fun k e e2 => ?_⟩
  · have := g1 k e; have := c3 k e; omega
  · have := g2 k e; have := b3 k e; omega
  · have := g3 k e; have := a3 k e; omega
  · have := c3 k e; have := g2 k e2; omega
  · have := c3 k e; have := g3 k e2; omega
  · have := b3 k e; have := g3 k e2; omega
theorem News.lt {W : World} {B : Nat} : ∀ {xs : List (Value × List (List UInt8))} {hi : Nat}, News W B hi xs → ∀ x ∈ xs, ∀ q, x.1.ownBlock = some q → B ≤ q ∧ q < hi
  | [], _, _ => fun x hx => (by cases hx)
  | y :: r, hi, ⟨lo, h1, h2, h3, h4⟩ => fun x hx q e => by
    rcases List.mem_cons.1 hx with rfl | hx
    · have := (ownS_lt h2 q e).1; have := h4.low; have := h3 q e; omega
    · have := News.lt h4 x hx q e; omega
theorem PartO.mono {G G' : Nat → Prop} {w : World} {B B' : Nat} {v1 v2 v3 : Value} {l1 l2 l3 : List (List UInt8)} (h : PartO G w B v1 v2 v3 l1 l2 l3) (hB : B' ≤ B) (h1 : ∀ k, v1.ownBlock = some k → G' k) (h2 : ∀ k, v2.ownBlock = some k → G' k) (h3 : ∀ k, v3.ownBlock = some k → G' k) : PartO G' w B' v1 v2 v3 l1 l2 l3 :=
  ⟨own_base h.o1 hB, own_base h.o2 hB, own_base h.o3 hB, h1, h2, h3, h.d12, h.d13, h.d23⟩
theorem frozen_box {w : World} {b : Nat} {cs : Array Value} {t : TypeId} (h : w.heap[b]? = some (.cells cs t (0, 0))) (j : Nat) : w.frozen? ⟨b, j, none⟩ = false := by
  unfold World.frozen?; rw [h]; rfl
/-- Four cells of one block, stored. -/
def set4 (w : World) (b : Nat) (v0 v1 v2 v3 : Value) : World := (((w.setCell ⟨b, 0, none⟩ v0).setCell ⟨b, 1, none⟩ v1).setCell ⟨b, 2, none⟩ v2).setCell ⟨b, 3, none⟩ v3
theorem set4_cells {w : World} {b : Nat} {c0 c1 c2 c3 : Value} (h0 : w.cell? ⟨b, 0, none⟩ = some c0) (h1 : w.cell? ⟨b, 1, none⟩ = some c1) (h2 : w.cell? ⟨b, 2, none⟩ = some c2) (h3 : w.cell? ⟨b, 3, none⟩ = some c3) (v0 v1 v2 v3 : Value) :
    (set4 w b v0 v1 v2 v3).cell? ⟨b, 0, none⟩ = some v0 ∧ (set4 w b v0 v1 v2 v3).cell? ⟨b, 1, none⟩ = some v1 ∧ (set4 w b v0 v1 v2 v3).cell? ⟨b, 2, none⟩ = some v2 ∧ (set4 w b v0 v1 v2 v3).cell? ⟨b, 3, none⟩ = some v3 := by
  unfold set4
  refine ⟨?_, ?_, ?_, ?_⟩ <;> simp [World.cell?_setCell_other, World.cell?_setCell_same', h0, h1, h2, h3]
theorem set4_spares (w : World) (b : Nat) (v0 v1 v2 v3 : Value) : Spares (fun q => q = b) w (set4 w b v0 v1 v2 v3) :=
  (((Spares.of_set (fun q => q = b) w b 0 v0 rfl).trans (Spares.of_set (fun q => q = b) _ b 1 v1 rfl) (fun _ _ e => e)).trans (Spares.of_set (fun q => q = b) _ b 2 v2 rfl) (fun _ _ e => e)).trans (Spares.of_set (fun q => q = b) _ b 3 v3 rfl) (fun _ _ e => e)
/-- All three cut, two boxes beside them. -/
structure PEnd (S : Nat → Prop) (rb r8 pb : Nat) (w W : World) (a b c : List (List UInt8)) (u1 u2 u3 : Value) (t1 t2 t3 : List (List UInt8)) : Prop where
  rest : RestAt S W rb a b c
  sp : Spares (fun q => q = rb) w W
  po : PartO (fun q => w.heap.size ≤ q ∧ q < W.heap.size ∧ q ≠ pb ∧ q ≠ r8) W w.heap.size u1 u2 u3 t1 t2 t3
  hpb : w.heap.size ≤ pb
  hr8 : w.heap.size ≤ r8
theorem PEnd.on {S : Nat → Prop} {rb r8 pb : Nat} {w W W' : World} {a b c : List (List UInt8)} {u1 u2 u3 : Value} {t1 t2 t3 : List (List UInt8)} (h : PEnd S rb r8 pb w W a b c u1 u2 u3 t1 t2 t3) (hS : ∀ k, S k → k < w.heap.size) (hrb : rb < w.heap.size) (hs : Spares (fun q => q = pb ∨ q = r8) W W') : PEnd S rb r8 pb w W' a b c u1 u2 u3 t1 t2 t3 := by
  have h1 := h.hpb
  have h2 := h.hr8
  have h3 := h.sp.size
  have h4 := hs.size
  refine ⟨h.rest.kept (hs.block rb (by omega) (by omega)) (fun k hk => hs.block k (Nat.lt_of_lt_of_le (hS k hk) h3) (by have := hS k hk; omega)), h.sp.trans hs (fun j hj e => by omega), ?_, h1, h2⟩
  have hk := h.po.kept (w' := W') (fun k hk => hs.block k hk.2.1 (by omega))
  exact hk.mono (Nat.le_refl _) (fun k e => by have := h.po.g1 k e; omega) (fun k e => by have := h.po.g2 k e; omega) (fun k e => by have := h.po.g3 k e; omega)
theorem PSt.fin {S : Nat → Prop} {rb r8 pb : Nat} {w W : World} {a b c : List (List UInt8)} {u1 u2 u3 : Value} {t1 t2 t3 : List (List UInt8)} (h : PSt S rb r8 w W a b c [(u3, t3), (u2, t2), (u1, t1)]) (hpb : w.heap.size ≤ pb) (hn : ∀ x ∈ [(u3, t3), (u2, t2), (u1, t1)], x.1.ownBlock ≠ some pb) : PEnd S rb r8 pb w W a b c u1 u2 u3 t1 t2 t3 := by
  have hl := h.low
  have lt := h.news.lt
  refine ⟨h.rest, h.sp, h.news.part.mono (by omega) (fun k e => ?_) (fun k e => ?_) (fun k e => ?_), hpb, hl⟩
  · have := lt (u1, t1) (by simp) k e; have := hn (u1, t1) (by simp); refine ⟨by omega, by omega, fun e2 => this (by rw [← e2]; exact e), by omega⟩
  · have := lt (u2, t2) (by simp) k e; have := hn (u2, t2) (by simp); refine ⟨by omega, by omega, fun e2 => this (by rw [← e2]; exact e), by omega⟩
  · have := lt (u3, t3) (by simp) k e; have := hn (u3, t3) (by simp); refine ⟨by omega, by omega, fun e2 => this (by rw [← e2]; exact e), by omega⟩
set_option maxRecDepth 100000 in
set_option maxHeartbeats 4000000 in
theorem part_any (S : Nat → Prop) (rb : Nat) (a b c : List (List UInt8)) (i j k : Nat) (w : World) (hS : ∀ q, S q → q < w.heap.size) (hne : ∀ q, S q → q ≠ rb) (hrb : rb < w.heap.size) (hr : RestAt S w rb a b c) (hi : i ≤ a.length) (hj : j ≤ b.length) (hk : k ≤ c.length)
    (hal : a.length ≤ 4194304) (hbl : b.length ≤ 4194304) (hcl : c.length ≤ 4194304) :
    Calls Tryd.prog 69 #[.pointer (some ⟨rb, 0, none⟩), .int .i64 (i : Int), .int .i64 (j : Int), .int .i64 (k : Int)] w (PartP S rb w i j k a b c) := by
  have HS := Lib.hid hS
  have HNE := Lib.hid hne
  have HR := Lib.hid hr
  clear hS hne hr
  go_enter Tryd.func69, Tryd.ntmps69
  go_upto_region 1 with fail
  have HP0 : Hid (PSt S rb w.heap.size w (w.alloc (.cells #[.int .i64 0, .slice none 0 0, .slice none 0 0, .slice none 0 0] 134)).drew a b c []) := Lib.hid ⟨HR.out.kept (Below.heap_alloc _ _ _ hrb) (fun k hk => Below.heap_alloc _ _ _ (HS.out k hk)), (Spares.of_alloc _ _ _).trans (Spares.of_drewn _ _ 1) (fun _ _ e => e), by show w.heap.size + 1 ≤ _; simp, new_five w _ _, Nat.le_refl _, by simp⟩
  clear HR
  generalize hwd0 : w.alloc (.cells #[.int .i64 0, .slice none 0 0, .slice none 0 0, .slice none 0 0] 134) = wd0 at *
  clear hwd0
  obtain ⟨r8, hr8⟩ : ∃ r8, w.heap.size = r8 := ⟨_, rfl⟩
  have HP0' : Hid (PSt S rb r8 w wd0.drew a b c []) := by rw [← hr8]; exact HP0
  rw [hr8]
  clear HP0 hr8
  refine wp_region_held_drew (S := (fun _ => True)) (by kernel_rfl) (by trivial) (fun hHeld => ?_)
  have P0 := HP0'
  clear HP0'
  generalize wd0.drew = wd at *
  refine wpAnyH_take (i := 0) (oi := ⟨_, _, _, _, _, _⟩) (v := ?_) rfl (by kernel_rfl) (by kernel_rfl) (by kernel_rfl) (fun _ _ _ h => h) (Or.inl ⟨by rfl, ?_⟩) (by assumption) ?_
  rotate_left
  · intro w hSw; (try dsimp only at hSw); first | (go_simp; done) | (go_simp; with_reducible rfl)
  try simp only [Act.put, List.setIfInBounds_toArray, List.set_cons_zero, List.set_cons_succ]
  refine wpAnyH_take (i := 1) (oi := ⟨_, _, _, _, _, _⟩) (v := ?_) rfl (by kernel_rfl) (by kernel_rfl) (by kernel_rfl) (fun _ _ _ h => h) (Or.inl ⟨by rfl, ?_⟩) (by assumption) ?_
  rotate_left
  · intro w hSw; (try dsimp only at hSw); first | (go_simp; done) | (go_simp; with_reducible rfl)
  try simp only [Act.put, List.setIfInBounds_toArray, List.set_cons_zero, List.set_cons_succ]
  refine wpAnyH_take (i := 2) (oi := ⟨_, _, _, _, _, _⟩) (v := ?_) rfl (by kernel_rfl) (by kernel_rfl) (by kernel_rfl) (fun _ _ _ h => h) (Or.inl ⟨by rfl, ?_⟩) (by assumption) ?_
  rotate_left
  · intro w hSw; (try dsimp only at hSw); first | (go_simp; done) | (go_simp; with_reducible rfl)
  try simp only [Act.put, List.setIfInBounds_toArray, List.set_cons_zero, List.set_cons_succ]
  refine wpAnyH_take (i := 3) (oi := ⟨_, _, _, _, _, _⟩) (v := ?_) rfl (by kernel_rfl) (by kernel_rfl) (by kernel_rfl) (fun _ _ _ h => h) (Or.inl ⟨by rfl, ?_⟩) (by assumption) ?_
  rotate_left
  · intro w hSw; (try dsimp only at hSw); first | (go_simp; done) | (go_simp; with_reducible rfl)
  try simp only [Act.put, List.setIfInBounds_toArray, List.set_cons_zero, List.set_cons_succ]
  refine wpAnyH_take (i := 5) (oi := ⟨_, _, _, _, _, _⟩) (v := ?_) rfl (by kernel_rfl) (by kernel_rfl) (by kernel_rfl) (fun _ _ _ h => h) (Or.inl ⟨by rfl, ?_⟩) (by assumption) ?_
  rotate_left
  · intro w hSw; (try dsimp only at hSw); first | (go_simp; done) | (go_simp; with_reducible rfl)
  try simp only [Act.put, List.setIfInBounds_toArray, List.set_cons_zero, List.set_cons_succ]
  refine wpAnyH_take (i := 6) (oi := ⟨_, _, _, _, _, _⟩) (v := ?_) rfl (by kernel_rfl) (by kernel_rfl) (by kernel_rfl) (fun _ _ _ h => h) (Or.inl ⟨by rfl, ?_⟩) (by assumption) ?_
  rotate_left
  · intro w hSw; (try dsimp only at hSw); first | (go_simp; done) | (go_simp; with_reducible rfl)
  try simp only [Act.put, List.setIfInBounds_toArray, List.set_cons_zero, List.set_cons_succ]
  refine wpAnyH_take (i := 7) (oi := ⟨_, _, _, _, _, _⟩) (v := ?_) rfl (by kernel_rfl) (by kernel_rfl) (by kernel_rfl) (fun _ _ _ h => h) (Or.inl ⟨by rfl, ?_⟩) (by assumption) ?_
  rotate_left
  · intro w hSw; (try dsimp only at hSw); first | (go_simp; done) | (go_simp; with_reducible rfl)
  try simp only [Act.put, List.setIfInBounds_toArray, List.set_cons_zero, List.set_cons_succ]
  refine wpAnyH_take (i := 8) (oi := ⟨_, _, _, _, _, _⟩) (v := ?_) rfl (by kernel_rfl) (by kernel_rfl) (by kernel_rfl) (fun _ _ _ h => h) (Or.inl ⟨by rfl, ?_⟩) (by assumption) ?_
  rotate_left
  · intro w hSw; (try dsimp only at hSw); first | (go_simp; done) | (go_simp; with_reducible rfl)
  try simp only [Act.put, List.setIfInBounds_toArray, List.set_cons_zero, List.set_cons_succ]
  refine wpAnyH_take (i := 10) (oi := ⟨_, _, _, _, _, _⟩) (v := ?_) rfl (by kernel_rfl) (by kernel_rfl) (by kernel_rfl) (fun _ _ _ h => h) (Or.inl ⟨by rfl, ?_⟩) (by assumption) ?_
  rotate_left
  · intro w hSw; (try dsimp only at hSw); first | (go_simp; done) | (go_simp; with_reducible rfl)
  try simp only [Act.put, List.setIfInBounds_toArray, List.set_cons_zero, List.set_cons_succ]
  refine wpAnyH_take (i := 11) (oi := ⟨_, _, _, _, _, _⟩) (v := ?_) rfl (by kernel_rfl) (by kernel_rfl) (by kernel_rfl) (fun _ _ _ h => h) (Or.inl ⟨by rfl, ?_⟩) (by assumption) ?_
  rotate_left
  · intro w hSw; (try dsimp only at hSw); first | (go_simp; done) | (go_simp; with_reducible rfl)
  try simp only [Act.put, List.setIfInBounds_toArray, List.set_cons_zero, List.set_cons_succ]
  refine wpAnyH_take (i := 12) (oi := ⟨_, _, _, _, _, _⟩) (v := ?_) rfl (by kernel_rfl) (by kernel_rfl) (by kernel_rfl) (fun _ _ _ h => h) (Or.inl ⟨by rfl, ?_⟩) (by assumption) ?_
  rotate_left
  · intro w hSw; (try dsimp only at hSw); first | (go_simp; done) | (go_simp; with_reducible rfl)
  try simp only [Act.put, List.setIfInBounds_toArray, List.set_cons_zero, List.set_cons_succ]
  refine wpAnyH_take (i := 13) (oi := ⟨_, _, _, _, _, _⟩) (v := ?_) rfl (by kernel_rfl) (by kernel_rfl) (by kernel_rfl) (fun _ _ _ h => h) (Or.inl ⟨by rfl, ?_⟩) (by assumption) ?_
  rotate_left
  · intro w hSw; (try dsimp only at hSw); first | (go_simp; done) | (go_simp; with_reducible rfl)
  try simp only [Act.put, List.setIfInBounds_toArray, List.set_cons_zero, List.set_cons_succ]
  refine wpAnyH_ready (rs := [4, 16]) (by kernel_rfl) (by simp) ?_
  refine AllReadyH.cons (o := ⟨_, _, _, _, _, _⟩) rfl (fun K hK => ?_) (AllReadyH.cons (o := ⟨_, _, _, _, _, _⟩) rfl (fun K hK => ?_) AllReadyH.nil)
  · go_simp
    refine (P0.out.cut0 i HS.out HNE.out hrb hi hal).mono ?_
    rintro e wc1 ⟨u1, rfl, hP, hs, hlo, au1, cu1, rfl⟩
    have P1 := Lib.hid hP
    clear hP hs hlo P0
    try go_wp2_with fail
    refine hK.out _ _ (by trivial) (fun hHeld => ?_)
    clear hK K
    try simp only [Act.put, List.setIfInBounds_toArray, List.set_cons_zero, List.set_cons_succ]
    refine wpAnyH_ready (rs := [9, 16]) (by kernel_rfl) (by simp) ?_
    refine AllReadyH.cons (o := ⟨_, _, _, _, _, _⟩) rfl (fun K hK => ?_) (AllReadyH.cons (o := ⟨_, _, _, _, _, _⟩) rfl (fun K hK => ?_) AllReadyH.nil)
    · go_simp
      refine (P1.out.cut1 j HS.out HNE.out hrb hj hbl).mono ?_
      rintro e wc2 ⟨u2, rfl, hP, hs, hlo, au2, cu2, rfl⟩
      have P2 := Lib.hid hP
      clear hP hs hlo P1
      try go_wp2_with fail
      refine hK.out _ _ (by trivial) (fun hHeld => ?_)
      clear hK K
      try simp only [Act.put, List.setIfInBounds_toArray, List.set_cons_zero, List.set_cons_succ]
      refine wpAnyH_ready (rs := [14, 16]) (by kernel_rfl) (by simp) ?_
      refine AllReadyH.cons (o := ⟨_, _, _, _, _, _⟩) rfl (fun K hK => ?_) (AllReadyH.cons (o := ⟨_, _, _, _, _, _⟩) rfl (fun K hK => ?_) AllReadyH.nil)
      · go_simp
        refine (P2.out.cut2 k HS.out HNE.out hrb hk hcl).mono ?_
        rintro e wc3 ⟨u3, rfl, hP, hs, hlo, au3, cu3, rfl⟩
        have P3 := Lib.hid hP
        clear hP hs hlo P2
        try go_wp2_with fail
        refine hK.out _ _ (by trivial) (fun hHeld => ?_)
        clear hK K
        try simp only [Act.put, List.setIfInBounds_toArray, List.set_cons_zero, List.set_cons_succ]
        refine wpAnyH_take (i := 15) (oi := ⟨_, _, _, _, _, _⟩) (v := ?_) rfl (by kernel_rfl) (by kernel_rfl) (by kernel_rfl) (fun _ _ _ h => h) (Or.inl ⟨by rfl, ?_⟩) (by assumption) ?_
        rotate_left
        · intro w hSw; (try dsimp only at hSw); first | (go_simp; done) | (go_simp; with_reducible rfl)
        try simp only [Act.put, List.setIfInBounds_toArray, List.set_cons_zero, List.set_cons_succ]
        refine wpAnyH_ready (rs := [16]) (by kernel_rfl) (by simp) ?_
        refine AllReadyH.cons (o := ⟨_, _, _, _, _, _⟩) rfl (fun K hK => ?_) AllReadyH.nil
        go_simp
        refine any_step (fun wc4 hN => ?_)
        have P4 := Lib.hid (P3.out.on HS.out HNE.out hrb (W' := wc4) (by rw [hN]; exact Spares.of_alloc _ _ _) (by rw [hN]; exact Below.heap_alloc _ _ _ (Nat.lt_of_lt_of_le hrb P3.out.sp.size)))
        have BX4 : Hid (wc4.heap[wc3.heap.size]? = some (.cells #[.int .i64 0, .slice none 0 0, .slice none 0 0, .slice none 0 0] 134 (0, 0)) ∧ (w.heap.size ≤ wc3.heap.size ∧ r8 < wc3.heap.size) ∧ wc3.heap.size < wc4.heap.size ∧ ∀ x ∈ ([(.slice au3 k cu3, c.take k), (.slice au2 j cu2, b.take j), (.slice au1 i cu1, a.take i)] : List (Value × List (List UInt8))), x.1.ownBlock ≠ some wc3.heap.size) := Lib.hid ⟨by rw [hN]; exact new_five _ _ _, ⟨P3.out.sp.size, P3.out.high⟩, by rw [hN]; simp, fun x hx e => by have := P3.out.news.lt x hx _ e; omega⟩
        obtain ⟨pb, hpb⟩ : ∃ pb, wc3.heap.size = pb := ⟨_, rfl⟩
        rw [hpb] at BX4 ⊢
        clear hN hpb P3
        try go_wp2_with fail
        refine hK.out _ _ (by trivial) (fun hHeld => ?_)
        clear hK K
        try simp only [Act.put, List.setIfInBounds_toArray, List.set_cons_zero, List.set_cons_succ]
        refine wpAnyH_ready (rs := [17]) (by kernel_rfl) (by simp) ?_
        refine AllReadyH.cons (o := ⟨_, _, _, _, _, _⟩) rfl (fun K hK => ?_) AllReadyH.nil
        have PE := Lib.hid (P4.out.fin BX4.out.2.1.1 BX4.out.2.2.2)
        have RES : Hid (wc4.heap[r8]? = some (.cells #[.int .i64 0, .slice none 0 0, .slice none 0 0, .slice none 0 0] 134 (0, 0)) ∧ w.heap.size ≤ r8 ∧ r8 < wc4.heap.size) := Lib.hid ⟨P4.out.res, P4.out.low, P4.out.high⟩
        obtain ⟨b0, b1, b2, b3⟩ := box4 (w' := wc4) BX4.out.1 rfl
        have z0 := frozen_box BX4.out.1 0
        have z1 := frozen_box BX4.out.1 1
        have z2 := frozen_box BX4.out.1 2
        have z3 := frozen_box BX4.out.1 3
        have hpr : r8 < pb ∧ pb < wc4.heap.size := ⟨BX4.out.2.1.2, BX4.out.2.2.1⟩
        go_simp
        try go_wp2_with fail
        refine hK.out _ _ (by trivial) (fun hHeld => ?_)
        clear hK K
        try simp only [Act.put, List.setIfInBounds_toArray, List.set_cons_zero, List.set_cons_succ]
        refine wpAnyH_done (by kernel_rfl) ?_ _
        clear hHeld
        have PE5 := Lib.hid (PE.out.on HS.out hrb ((set4_spares wc4 pb (.int .i64 0) (.slice au1 i cu1) (.slice au2 j cu2) (.slice au3 k cu3)).mono (fun _ e => Or.inl e)))
        obtain ⟨y0, y1, y2, y3⟩ := set4_cells b0 b1 b2 b3 (.int .i64 0) (.slice au1 i cu1) (.slice au2 j cu2) (.slice au3 k cu3)
        have RES5 : Hid ((set4 wc4 pb (.int .i64 0) (.slice au1 i cu1) (.slice au2 j cu2) (.slice au3 k cu3)).heap[r8]? = some (.cells #[.int .i64 0, .slice none 0 0, .slice none 0 0, .slice none 0 0] 134 (0, 0))) := Lib.hid (((set4_spares wc4 pb _ _ _ _).block r8 (by omega) (fun e => by omega)).trans RES.out.1)
        have FZ5 : Hid (∀ q, (set4 wc4 pb (.int .i64 0) (.slice au1 i cu1) (.slice au2 j cu2) (.slice au3 k cu3)).frozen? ⟨pb, q, none⟩ = wc4.frozen? ⟨pb, q, none⟩) := Lib.hid (fun q => by simp [set4])
        have hs5 : pb < (set4 wc4 pb (.int .i64 0) (.slice au1 i cu1) (.slice au2 j cu2) (.slice au3 k cu3)).heap.size := Nat.lt_of_lt_of_le hpr.2 (set4_spares wc4 pb _ _ _ _).size
        have x0 := (FZ5.out 0).trans z0
        obtain ⟨w5, hw5⟩ : ∃ W5, set4 wc4 pb (.int .i64 0) (.slice au1 i cu1) (.slice au2 j cu2) (.slice au3 k cu3) = W5 := ⟨_, rfl⟩
        rw [hw5] at PE5 y0 y1 y2 y3 RES5 hs5 x0
        unfold set4 at hw5
        rw [hw5]
        have hlr : r8 < pb := hpr.1
        clear hw5 FZ5 PE RES b0 b1 b2 b3 z0 z1 z2 z3 hpr P4 BX4
        go_wp2_with fail
        refine (kind_any _ _ _ 0 _ _ _ (a.take i) (b.take j) (c.take k) w5 (fun q e => (ownS_lt PE5.out.po.o1 q e).2) (fun q e => (ownS_lt PE5.out.po.o2 q e).2) (fun q e => (ownS_lt PE5.out.po.o3 q e).2) (ownS_strs PE5.out.po.o1) (ownS_strs PE5.out.po.o2) (ownS_strs PE5.out.po.o3) (by rw [List.length_take]; omega) (by rw [List.length_take]; omega) (by rw [List.length_take]; omega)).mono ?_
        rintro e w6 ⟨rfl, hb6⟩
        have PE6 := Lib.hid (PE5.out.on HS.out hrb (Spares.of_below hb6 _))
        have g0 := (hb6.cell (p := ⟨pb, 0, none⟩) hs5).trans y0
        have g1 := (hb6.cell (p := ⟨pb, 1, none⟩) hs5).trans y1
        have g2 := (hb6.cell (p := ⟨pb, 2, none⟩) hs5).trans y2
        have g3 := (hb6.cell (p := ⟨pb, 3, none⟩) hs5).trans y3
        have x6 := (World.frozen?_of_block (w := w5) (a := ⟨pb, 0, none⟩) (hb6.block pb hs5)).trans x0
        have RES6 := (hb6.block r8 (by omega)).trans RES5.out
        obtain ⟨b0, b1, b2, b3⟩ := box4 RES6 rfl
        have z0 := frozen_box RES6 0
        have z1 := frozen_box RES6 1
        have z2 := frozen_box RES6 2
        have z3 := frozen_box RES6 3
        obtain ⟨kk, hkk⟩ : ∃ kk, kindN (a.take i) (b.take j) (c.take k) = kk := ⟨_, rfl⟩
        have HKK := Lib.hid hkk
        rw [hkk]
        have hn1 : ¬ (pb = r8) := by omega
        have hn2 : ¬ (r8 = pb) := by omega
        clear hb6 y0 y1 y2 y3 x0 RES6 hkk PE5 RES5 hlr
        go_wp2_with fail
        have PE7 := PE6.out.on HS.out hrb ((Spares.of_set (fun q => q = pb ∨ q = r8) w6 pb 0 (.int .i64 kk) (Or.inl rfl)).trans ((set4_spares (w6.setCell ⟨pb, 0, none⟩ (.int .i64 kk)) r8 (.int .i64 kk) (.slice au1 i cu1) (.slice au2 j cu2) (.slice au3 k cu3)).mono (F' := fun q => q = pb ∨ q = r8) (fun _ e => Or.inr e)) (fun _ _ e => e))
        obtain ⟨r0, r1, r2, r3⟩ := set4_cells (w := w6.setCell ⟨pb, 0, none⟩ (.int .i64 kk)) ((World.cell?_setCell_other _ _ _ _ (by simp)).trans b0) ((World.cell?_setCell_other _ _ _ _ (by simp)).trans b1) ((World.cell?_setCell_other _ _ _ _ (by simp)).trans b2) ((World.cell?_setCell_other _ _ _ _ (by simp)).trans b3) (.int .i64 kk) (.slice au1 i cu1) (.slice au2 j cu2) (.slice au3 k cu3)
        unfold set4 at r0 r1 r2 r3 PE7
        exact bodyPost_ret (v := .agg #[.int .i64 kk, .slice au1 i cu1, .slice au2 j cu2, .slice au3 k cu3]) (by simp [results, Tryd.results69, go_sem, r0, r1, r2, r3]) rfl ⟨_, _, _, by rw [HKK.out], PE7.po.mono (Nat.le_refl _) (fun q e => ⟨(PE7.po.g1 q e).1, (PE7.po.g1 q e).2.1⟩) (fun q e => ⟨(PE7.po.g2 q e).1, (PE7.po.g2 q e).2.1⟩) (fun q e => ⟨(PE7.po.g3 q e).1, (PE7.po.g3 q e).2.1⟩), PE7.rest, PE7.sp⟩
      · go_simp
        refine any_step (fun wc5 hN => ?_)
        have P5 := Lib.hid (P2.out.on HS.out HNE.out hrb (W' := wc5) (by rw [hN]; exact Spares.of_alloc _ _ _) (by rw [hN]; exact Below.heap_alloc _ _ _ (Nat.lt_of_lt_of_le hrb P2.out.sp.size)))
        have BX5 : Hid (wc5.heap[wc2.heap.size]? = some (.cells #[.int .i64 0, .slice none 0 0, .slice none 0 0, .slice none 0 0] 134 (0, 0)) ∧ (w.heap.size ≤ wc2.heap.size ∧ r8 < wc2.heap.size) ∧ wc2.heap.size < wc5.heap.size ∧ ∀ x ∈ ([(.slice au2 j cu2, b.take j), (.slice au1 i cu1, a.take i)] : List (Value × List (List UInt8))), x.1.ownBlock ≠ some wc2.heap.size) := Lib.hid ⟨by rw [hN]; exact new_five _ _ _, ⟨P2.out.sp.size, P2.out.high⟩, by rw [hN]; simp, fun x hx e => by have := P2.out.news.lt x hx _ e; omega⟩
        obtain ⟨pb, hpb⟩ : ∃ pb, wc2.heap.size = pb := ⟨_, rfl⟩
        rw [hpb] at BX5 ⊢
        clear hN hpb P2
        try go_wp2_with fail
        refine hK.out _ _ (by trivial) (fun hHeld => ?_)
        clear hK K
        try simp only [Act.put, List.setIfInBounds_toArray, List.set_cons_zero, List.set_cons_succ]
        refine wpAnyH_ready (rs := [14]) (by kernel_rfl) (by simp) ?_
        refine AllReadyH.cons (o := ⟨_, _, _, _, _, _⟩) rfl (fun K hK => ?_) AllReadyH.nil
        go_simp
        refine (P5.out.cut2 k HS.out HNE.out hrb hk hcl).mono ?_
        rintro e wc6 ⟨u3, rfl, hP, hs, hlo, au3, cu3, rfl⟩
        have P6 := Lib.hid hP
        have BX6 : Hid (wc6.heap[pb]? = some (.cells #[.int .i64 0, .slice none 0 0, .slice none 0 0, .slice none 0 0] 134 (0, 0)) ∧ (w.heap.size ≤ pb ∧ r8 < pb) ∧ pb < wc6.heap.size ∧ ∀ x ∈ ([(.slice au3 k cu3, c.take k), (.slice au2 j cu2, b.take j), (.slice au1 i cu1, a.take i)] : List (Value × List (List UInt8))), x.1.ownBlock ≠ some pb) := Lib.hid ⟨(hs.block pb BX5.out.2.2.1 (fun e => by have := BX5.out.2.1; omega)).trans BX5.out.1, BX5.out.2.1, Nat.lt_of_lt_of_le BX5.out.2.2.1 hs.size, fun x hx => by
            rcases List.mem_cons.1 hx with rfl | hx
            · exact fun e => by have := hlo pb e; have := BX5.out.2.2.1; omega
            · exact BX5.out.2.2.2 x hx⟩
        clear BX5
        clear hP hs hlo P5
        try go_wp2_with fail
        refine hK.out _ _ (by trivial) (fun hHeld => ?_)
        clear hK K
        try simp only [Act.put, List.setIfInBounds_toArray, List.set_cons_zero, List.set_cons_succ]
        refine wpAnyH_take (i := 15) (oi := ⟨_, _, _, _, _, _⟩) (v := ?_) rfl (by kernel_rfl) (by kernel_rfl) (by kernel_rfl) (fun _ _ _ h => h) (Or.inl ⟨by rfl, ?_⟩) (by assumption) ?_
        rotate_left
        · intro w hSw; (try dsimp only at hSw); first | (go_simp; done) | (go_simp; with_reducible rfl)
        try simp only [Act.put, List.setIfInBounds_toArray, List.set_cons_zero, List.set_cons_succ]
        refine wpAnyH_ready (rs := [17]) (by kernel_rfl) (by simp) ?_
        refine AllReadyH.cons (o := ⟨_, _, _, _, _, _⟩) rfl (fun K hK => ?_) AllReadyH.nil
        have PE := Lib.hid (P6.out.fin BX6.out.2.1.1 BX6.out.2.2.2)
        have RES : Hid (wc6.heap[r8]? = some (.cells #[.int .i64 0, .slice none 0 0, .slice none 0 0, .slice none 0 0] 134 (0, 0)) ∧ w.heap.size ≤ r8 ∧ r8 < wc6.heap.size) := Lib.hid ⟨P6.out.res, P6.out.low, P6.out.high⟩
        obtain ⟨b0, b1, b2, b3⟩ := box4 (w' := wc6) BX6.out.1 rfl
        have z0 := frozen_box BX6.out.1 0
        have z1 := frozen_box BX6.out.1 1
        have z2 := frozen_box BX6.out.1 2
        have z3 := frozen_box BX6.out.1 3
        have hpr : r8 < pb ∧ pb < wc6.heap.size := ⟨BX6.out.2.1.2, BX6.out.2.2.1⟩
        go_simp
        try go_wp2_with fail
        refine hK.out _ _ (by trivial) (fun hHeld => ?_)
        clear hK K
        try simp only [Act.put, List.setIfInBounds_toArray, List.set_cons_zero, List.set_cons_succ]
        refine wpAnyH_done (by kernel_rfl) ?_ _
        clear hHeld
        have PE5 := Lib.hid (PE.out.on HS.out hrb ((set4_spares wc6 pb (.int .i64 0) (.slice au1 i cu1) (.slice au2 j cu2) (.slice au3 k cu3)).mono (fun _ e => Or.inl e)))
        obtain ⟨y0, y1, y2, y3⟩ := set4_cells b0 b1 b2 b3 (.int .i64 0) (.slice au1 i cu1) (.slice au2 j cu2) (.slice au3 k cu3)
        have RES5 : Hid ((set4 wc6 pb (.int .i64 0) (.slice au1 i cu1) (.slice au2 j cu2) (.slice au3 k cu3)).heap[r8]? = some (.cells #[.int .i64 0, .slice none 0 0, .slice none 0 0, .slice none 0 0] 134 (0, 0))) := Lib.hid (((set4_spares wc6 pb _ _ _ _).block r8 (by omega) (fun e => by omega)).trans RES.out.1)
        have FZ5 : Hid (∀ q, (set4 wc6 pb (.int .i64 0) (.slice au1 i cu1) (.slice au2 j cu2) (.slice au3 k cu3)).frozen? ⟨pb, q, none⟩ = wc6.frozen? ⟨pb, q, none⟩) := Lib.hid (fun q => by simp [set4])
        have hs5 : pb < (set4 wc6 pb (.int .i64 0) (.slice au1 i cu1) (.slice au2 j cu2) (.slice au3 k cu3)).heap.size := Nat.lt_of_lt_of_le hpr.2 (set4_spares wc6 pb _ _ _ _).size
        have x0 := (FZ5.out 0).trans z0
        obtain ⟨w5, hw5⟩ : ∃ W5, set4 wc6 pb (.int .i64 0) (.slice au1 i cu1) (.slice au2 j cu2) (.slice au3 k cu3) = W5 := ⟨_, rfl⟩
        rw [hw5] at PE5 y0 y1 y2 y3 RES5 hs5 x0
        unfold set4 at hw5
        rw [hw5]
        have hlr : r8 < pb := hpr.1
        clear hw5 FZ5 PE RES b0 b1 b2 b3 z0 z1 z2 z3 hpr P6 BX6
        go_wp2_with fail
        refine (kind_any _ _ _ 0 _ _ _ (a.take i) (b.take j) (c.take k) w5 (fun q e => (ownS_lt PE5.out.po.o1 q e).2) (fun q e => (ownS_lt PE5.out.po.o2 q e).2) (fun q e => (ownS_lt PE5.out.po.o3 q e).2) (ownS_strs PE5.out.po.o1) (ownS_strs PE5.out.po.o2) (ownS_strs PE5.out.po.o3) (by rw [List.length_take]; omega) (by rw [List.length_take]; omega) (by rw [List.length_take]; omega)).mono ?_
        rintro e w6 ⟨rfl, hb6⟩
        have PE6 := Lib.hid (PE5.out.on HS.out hrb (Spares.of_below hb6 _))
        have g0 := (hb6.cell (p := ⟨pb, 0, none⟩) hs5).trans y0
        have g1 := (hb6.cell (p := ⟨pb, 1, none⟩) hs5).trans y1
        have g2 := (hb6.cell (p := ⟨pb, 2, none⟩) hs5).trans y2
        have g3 := (hb6.cell (p := ⟨pb, 3, none⟩) hs5).trans y3
        have x6 := (World.frozen?_of_block (w := w5) (a := ⟨pb, 0, none⟩) (hb6.block pb hs5)).trans x0
        have RES6 := (hb6.block r8 (by omega)).trans RES5.out
        obtain ⟨b0, b1, b2, b3⟩ := box4 RES6 rfl
        have z0 := frozen_box RES6 0
        have z1 := frozen_box RES6 1
        have z2 := frozen_box RES6 2
        have z3 := frozen_box RES6 3
        obtain ⟨kk, hkk⟩ : ∃ kk, kindN (a.take i) (b.take j) (c.take k) = kk := ⟨_, rfl⟩
        have HKK := Lib.hid hkk
        rw [hkk]
        have hn1 : ¬ (pb = r8) := by omega
        have hn2 : ¬ (r8 = pb) := by omega
        clear hb6 y0 y1 y2 y3 x0 RES6 hkk PE5 RES5 hlr
        go_wp2_with fail
        have PE7 := PE6.out.on HS.out hrb ((Spares.of_set (fun q => q = pb ∨ q = r8) w6 pb 0 (.int .i64 kk) (Or.inl rfl)).trans ((set4_spares (w6.setCell ⟨pb, 0, none⟩ (.int .i64 kk)) r8 (.int .i64 kk) (.slice au1 i cu1) (.slice au2 j cu2) (.slice au3 k cu3)).mono (F' := fun q => q = pb ∨ q = r8) (fun _ e => Or.inr e)) (fun _ _ e => e))
        obtain ⟨r0, r1, r2, r3⟩ := set4_cells (w := w6.setCell ⟨pb, 0, none⟩ (.int .i64 kk)) ((World.cell?_setCell_other _ _ _ _ (by simp)).trans b0) ((World.cell?_setCell_other _ _ _ _ (by simp)).trans b1) ((World.cell?_setCell_other _ _ _ _ (by simp)).trans b2) ((World.cell?_setCell_other _ _ _ _ (by simp)).trans b3) (.int .i64 kk) (.slice au1 i cu1) (.slice au2 j cu2) (.slice au3 k cu3)
        unfold set4 at r0 r1 r2 r3 PE7
        exact bodyPost_ret (v := .agg #[.int .i64 kk, .slice au1 i cu1, .slice au2 j cu2, .slice au3 k cu3]) (by simp [results, Tryd.results69, go_sem, r0, r1, r2, r3]) rfl ⟨_, _, _, by rw [HKK.out], PE7.po.mono (Nat.le_refl _) (fun q e => ⟨(PE7.po.g1 q e).1, (PE7.po.g1 q e).2.1⟩) (fun q e => ⟨(PE7.po.g2 q e).1, (PE7.po.g2 q e).2.1⟩) (fun q e => ⟨(PE7.po.g3 q e).1, (PE7.po.g3 q e).2.1⟩), PE7.rest, PE7.sp⟩
    · go_simp
      refine any_step (fun wc7 hN => ?_)
      have P7 := Lib.hid (P1.out.on HS.out HNE.out hrb (W' := wc7) (by rw [hN]; exact Spares.of_alloc _ _ _) (by rw [hN]; exact Below.heap_alloc _ _ _ (Nat.lt_of_lt_of_le hrb P1.out.sp.size)))
      have BX7 : Hid (wc7.heap[wc1.heap.size]? = some (.cells #[.int .i64 0, .slice none 0 0, .slice none 0 0, .slice none 0 0] 134 (0, 0)) ∧ (w.heap.size ≤ wc1.heap.size ∧ r8 < wc1.heap.size) ∧ wc1.heap.size < wc7.heap.size ∧ ∀ x ∈ ([(.slice au1 i cu1, a.take i)] : List (Value × List (List UInt8))), x.1.ownBlock ≠ some wc1.heap.size) := Lib.hid ⟨by rw [hN]; exact new_five _ _ _, ⟨P1.out.sp.size, P1.out.high⟩, by rw [hN]; simp, fun x hx e => by have := P1.out.news.lt x hx _ e; omega⟩
      obtain ⟨pb, hpb⟩ : ∃ pb, wc1.heap.size = pb := ⟨_, rfl⟩
      rw [hpb] at BX7 ⊢
      clear hN hpb P1
      try go_wp2_with fail
      refine hK.out _ _ (by trivial) (fun hHeld => ?_)
      clear hK K
      try simp only [Act.put, List.setIfInBounds_toArray, List.set_cons_zero, List.set_cons_succ]
      refine wpAnyH_ready (rs := [9]) (by kernel_rfl) (by simp) ?_
      refine AllReadyH.cons (o := ⟨_, _, _, _, _, _⟩) rfl (fun K hK => ?_) AllReadyH.nil
      go_simp
      refine (P7.out.cut1 j HS.out HNE.out hrb hj hbl).mono ?_
      rintro e wc8 ⟨u2, rfl, hP, hs, hlo, au2, cu2, rfl⟩
      have P8 := Lib.hid hP
      have BX8 : Hid (wc8.heap[pb]? = some (.cells #[.int .i64 0, .slice none 0 0, .slice none 0 0, .slice none 0 0] 134 (0, 0)) ∧ (w.heap.size ≤ pb ∧ r8 < pb) ∧ pb < wc8.heap.size ∧ ∀ x ∈ ([(.slice au2 j cu2, b.take j), (.slice au1 i cu1, a.take i)] : List (Value × List (List UInt8))), x.1.ownBlock ≠ some pb) := Lib.hid ⟨(hs.block pb BX7.out.2.2.1 (fun e => by have := BX7.out.2.1; omega)).trans BX7.out.1, BX7.out.2.1, Nat.lt_of_lt_of_le BX7.out.2.2.1 hs.size, fun x hx => by
          rcases List.mem_cons.1 hx with rfl | hx
          · exact fun e => by have := hlo pb e; have := BX7.out.2.2.1; omega
          · exact BX7.out.2.2.2 x hx⟩
      clear BX7
      clear hP hs hlo P7
      try go_wp2_with fail
      refine hK.out _ _ (by trivial) (fun hHeld => ?_)
      clear hK K
      try simp only [Act.put, List.setIfInBounds_toArray, List.set_cons_zero, List.set_cons_succ]
      refine wpAnyH_ready (rs := [14]) (by kernel_rfl) (by simp) ?_
      refine AllReadyH.cons (o := ⟨_, _, _, _, _, _⟩) rfl (fun K hK => ?_) AllReadyH.nil
      go_simp
      refine (P8.out.cut2 k HS.out HNE.out hrb hk hcl).mono ?_
      rintro e wc9 ⟨u3, rfl, hP, hs, hlo, au3, cu3, rfl⟩
      have P9 := Lib.hid hP
      have BX9 : Hid (wc9.heap[pb]? = some (.cells #[.int .i64 0, .slice none 0 0, .slice none 0 0, .slice none 0 0] 134 (0, 0)) ∧ (w.heap.size ≤ pb ∧ r8 < pb) ∧ pb < wc9.heap.size ∧ ∀ x ∈ ([(.slice au3 k cu3, c.take k), (.slice au2 j cu2, b.take j), (.slice au1 i cu1, a.take i)] : List (Value × List (List UInt8))), x.1.ownBlock ≠ some pb) := Lib.hid ⟨(hs.block pb BX8.out.2.2.1 (fun e => by have := BX8.out.2.1; omega)).trans BX8.out.1, BX8.out.2.1, Nat.lt_of_lt_of_le BX8.out.2.2.1 hs.size, fun x hx => by
          rcases List.mem_cons.1 hx with rfl | hx
          · exact fun e => by have := hlo pb e; have := BX8.out.2.2.1; omega
          · exact BX8.out.2.2.2 x hx⟩
      clear BX8
      clear hP hs hlo P8
      try go_wp2_with fail
      refine hK.out _ _ (by trivial) (fun hHeld => ?_)
      clear hK K
      try simp only [Act.put, List.setIfInBounds_toArray, List.set_cons_zero, List.set_cons_succ]
      refine wpAnyH_take (i := 15) (oi := ⟨_, _, _, _, _, _⟩) (v := ?_) rfl (by kernel_rfl) (by kernel_rfl) (by kernel_rfl) (fun _ _ _ h => h) (Or.inl ⟨by rfl, ?_⟩) (by assumption) ?_
      rotate_left
      · intro w hSw; (try dsimp only at hSw); first | (go_simp; done) | (go_simp; with_reducible rfl)
      try simp only [Act.put, List.setIfInBounds_toArray, List.set_cons_zero, List.set_cons_succ]
      refine wpAnyH_ready (rs := [17]) (by kernel_rfl) (by simp) ?_
      refine AllReadyH.cons (o := ⟨_, _, _, _, _, _⟩) rfl (fun K hK => ?_) AllReadyH.nil
      have PE := Lib.hid (P9.out.fin BX9.out.2.1.1 BX9.out.2.2.2)
      have RES : Hid (wc9.heap[r8]? = some (.cells #[.int .i64 0, .slice none 0 0, .slice none 0 0, .slice none 0 0] 134 (0, 0)) ∧ w.heap.size ≤ r8 ∧ r8 < wc9.heap.size) := Lib.hid ⟨P9.out.res, P9.out.low, P9.out.high⟩
      obtain ⟨b0, b1, b2, b3⟩ := box4 (w' := wc9) BX9.out.1 rfl
      have z0 := frozen_box BX9.out.1 0
      have z1 := frozen_box BX9.out.1 1
      have z2 := frozen_box BX9.out.1 2
      have z3 := frozen_box BX9.out.1 3
      have hpr : r8 < pb ∧ pb < wc9.heap.size := ⟨BX9.out.2.1.2, BX9.out.2.2.1⟩
      go_simp
      try go_wp2_with fail
      refine hK.out _ _ (by trivial) (fun hHeld => ?_)
      clear hK K
      try simp only [Act.put, List.setIfInBounds_toArray, List.set_cons_zero, List.set_cons_succ]
      refine wpAnyH_done (by kernel_rfl) ?_ _
      clear hHeld
      have PE5 := Lib.hid (PE.out.on HS.out hrb ((set4_spares wc9 pb (.int .i64 0) (.slice au1 i cu1) (.slice au2 j cu2) (.slice au3 k cu3)).mono (fun _ e => Or.inl e)))
      obtain ⟨y0, y1, y2, y3⟩ := set4_cells b0 b1 b2 b3 (.int .i64 0) (.slice au1 i cu1) (.slice au2 j cu2) (.slice au3 k cu3)
      have RES5 : Hid ((set4 wc9 pb (.int .i64 0) (.slice au1 i cu1) (.slice au2 j cu2) (.slice au3 k cu3)).heap[r8]? = some (.cells #[.int .i64 0, .slice none 0 0, .slice none 0 0, .slice none 0 0] 134 (0, 0))) := Lib.hid (((set4_spares wc9 pb _ _ _ _).block r8 (by omega) (fun e => by omega)).trans RES.out.1)
      have FZ5 : Hid (∀ q, (set4 wc9 pb (.int .i64 0) (.slice au1 i cu1) (.slice au2 j cu2) (.slice au3 k cu3)).frozen? ⟨pb, q, none⟩ = wc9.frozen? ⟨pb, q, none⟩) := Lib.hid (fun q => by simp [set4])
      have hs5 : pb < (set4 wc9 pb (.int .i64 0) (.slice au1 i cu1) (.slice au2 j cu2) (.slice au3 k cu3)).heap.size := Nat.lt_of_lt_of_le hpr.2 (set4_spares wc9 pb _ _ _ _).size
      have x0 := (FZ5.out 0).trans z0
      obtain ⟨w5, hw5⟩ : ∃ W5, set4 wc9 pb (.int .i64 0) (.slice au1 i cu1) (.slice au2 j cu2) (.slice au3 k cu3) = W5 := ⟨_, rfl⟩
      rw [hw5] at PE5 y0 y1 y2 y3 RES5 hs5 x0
      unfold set4 at hw5
      rw [hw5]
      have hlr : r8 < pb := hpr.1
      clear hw5 FZ5 PE RES b0 b1 b2 b3 z0 z1 z2 z3 hpr P9 BX9
      go_wp2_with fail
      refine (kind_any _ _ _ 0 _ _ _ (a.take i) (b.take j) (c.take k) w5 (fun q e => (ownS_lt PE5.out.po.o1 q e).2) (fun q e => (ownS_lt PE5.out.po.o2 q e).2) (fun q e => (ownS_lt PE5.out.po.o3 q e).2) (ownS_strs PE5.out.po.o1) (ownS_strs PE5.out.po.o2) (ownS_strs PE5.out.po.o3) (by rw [List.length_take]; omega) (by rw [List.length_take]; omega) (by rw [List.length_take]; omega)).mono ?_
      rintro e w6 ⟨rfl, hb6⟩
      have PE6 := Lib.hid (PE5.out.on HS.out hrb (Spares.of_below hb6 _))
      have g0 := (hb6.cell (p := ⟨pb, 0, none⟩) hs5).trans y0
      have g1 := (hb6.cell (p := ⟨pb, 1, none⟩) hs5).trans y1
      have g2 := (hb6.cell (p := ⟨pb, 2, none⟩) hs5).trans y2
      have g3 := (hb6.cell (p := ⟨pb, 3, none⟩) hs5).trans y3
      have x6 := (World.frozen?_of_block (w := w5) (a := ⟨pb, 0, none⟩) (hb6.block pb hs5)).trans x0
      have RES6 := (hb6.block r8 (by omega)).trans RES5.out
      obtain ⟨b0, b1, b2, b3⟩ := box4 RES6 rfl
      have z0 := frozen_box RES6 0
      have z1 := frozen_box RES6 1
      have z2 := frozen_box RES6 2
      have z3 := frozen_box RES6 3
      obtain ⟨kk, hkk⟩ : ∃ kk, kindN (a.take i) (b.take j) (c.take k) = kk := ⟨_, rfl⟩
      have HKK := Lib.hid hkk
      rw [hkk]
      have hn1 : ¬ (pb = r8) := by omega
      have hn2 : ¬ (r8 = pb) := by omega
      clear hb6 y0 y1 y2 y3 x0 RES6 hkk PE5 RES5 hlr
      go_wp2_with fail
      have PE7 := PE6.out.on HS.out hrb ((Spares.of_set (fun q => q = pb ∨ q = r8) w6 pb 0 (.int .i64 kk) (Or.inl rfl)).trans ((set4_spares (w6.setCell ⟨pb, 0, none⟩ (.int .i64 kk)) r8 (.int .i64 kk) (.slice au1 i cu1) (.slice au2 j cu2) (.slice au3 k cu3)).mono (F' := fun q => q = pb ∨ q = r8) (fun _ e => Or.inr e)) (fun _ _ e => e))
      obtain ⟨r0, r1, r2, r3⟩ := set4_cells (w := w6.setCell ⟨pb, 0, none⟩ (.int .i64 kk)) ((World.cell?_setCell_other _ _ _ _ (by simp)).trans b0) ((World.cell?_setCell_other _ _ _ _ (by simp)).trans b1) ((World.cell?_setCell_other _ _ _ _ (by simp)).trans b2) ((World.cell?_setCell_other _ _ _ _ (by simp)).trans b3) (.int .i64 kk) (.slice au1 i cu1) (.slice au2 j cu2) (.slice au3 k cu3)
      unfold set4 at r0 r1 r2 r3 PE7
      exact bodyPost_ret (v := .agg #[.int .i64 kk, .slice au1 i cu1, .slice au2 j cu2, .slice au3 k cu3]) (by simp [results, Tryd.results69, go_sem, r0, r1, r2, r3]) rfl ⟨_, _, _, by rw [HKK.out], PE7.po.mono (Nat.le_refl _) (fun q e => ⟨(PE7.po.g1 q e).1, (PE7.po.g1 q e).2.1⟩) (fun q e => ⟨(PE7.po.g2 q e).1, (PE7.po.g2 q e).2.1⟩) (fun q e => ⟨(PE7.po.g3 q e).1, (PE7.po.g3 q e).2.1⟩), PE7.rest, PE7.sp⟩
  · go_simp
    refine any_step (fun wc10 hN => ?_)
    have P10 := Lib.hid (P0.out.on HS.out HNE.out hrb (W' := wc10) (by rw [hN]; exact Spares.of_alloc _ _ _) (by rw [hN]; exact Below.heap_alloc _ _ _ (Nat.lt_of_lt_of_le hrb P0.out.sp.size)))
    have BX10 : Hid (wc10.heap[wd.heap.size]? = some (.cells #[.int .i64 0, .slice none 0 0, .slice none 0 0, .slice none 0 0] 134 (0, 0)) ∧ (w.heap.size ≤ wd.heap.size ∧ r8 < wd.heap.size) ∧ wd.heap.size < wc10.heap.size ∧ ∀ x ∈ ([] : List (Value × List (List UInt8))), x.1.ownBlock ≠ some wd.heap.size) := Lib.hid ⟨by rw [hN]; exact new_five _ _ _, ⟨P0.out.sp.size, P0.out.high⟩, by rw [hN]; simp, fun x hx e => by have := P0.out.news.lt x hx _ e; omega⟩
    obtain ⟨pb, hpb⟩ : ∃ pb, wd.heap.size = pb := ⟨_, rfl⟩
    rw [hpb] at BX10 ⊢
    clear hN hpb P0
    try go_wp2_with fail
    refine hK.out _ _ (by trivial) (fun hHeld => ?_)
    clear hK K
    try simp only [Act.put, List.setIfInBounds_toArray, List.set_cons_zero, List.set_cons_succ]
    refine wpAnyH_ready (rs := [4]) (by kernel_rfl) (by simp) ?_
    refine AllReadyH.cons (o := ⟨_, _, _, _, _, _⟩) rfl (fun K hK => ?_) AllReadyH.nil
    go_simp
    refine (P10.out.cut0 i HS.out HNE.out hrb hi hal).mono ?_
    rintro e wc11 ⟨u1, rfl, hP, hs, hlo, au1, cu1, rfl⟩
    have P11 := Lib.hid hP
    have BX11 : Hid (wc11.heap[pb]? = some (.cells #[.int .i64 0, .slice none 0 0, .slice none 0 0, .slice none 0 0] 134 (0, 0)) ∧ (w.heap.size ≤ pb ∧ r8 < pb) ∧ pb < wc11.heap.size ∧ ∀ x ∈ ([(.slice au1 i cu1, a.take i)] : List (Value × List (List UInt8))), x.1.ownBlock ≠ some pb) := Lib.hid ⟨(hs.block pb BX10.out.2.2.1 (fun e => by have := BX10.out.2.1; omega)).trans BX10.out.1, BX10.out.2.1, Nat.lt_of_lt_of_le BX10.out.2.2.1 hs.size, fun x hx => by
        rcases List.mem_cons.1 hx with rfl | hx
        · exact fun e => by have := hlo pb e; have := BX10.out.2.2.1; omega
        · exact BX10.out.2.2.2 x hx⟩
    clear BX10
    clear hP hs hlo P10
    try go_wp2_with fail
    refine hK.out _ _ (by trivial) (fun hHeld => ?_)
    clear hK K
    try simp only [Act.put, List.setIfInBounds_toArray, List.set_cons_zero, List.set_cons_succ]
    refine wpAnyH_ready (rs := [9]) (by kernel_rfl) (by simp) ?_
    refine AllReadyH.cons (o := ⟨_, _, _, _, _, _⟩) rfl (fun K hK => ?_) AllReadyH.nil
    go_simp
    refine (P11.out.cut1 j HS.out HNE.out hrb hj hbl).mono ?_
    rintro e wc12 ⟨u2, rfl, hP, hs, hlo, au2, cu2, rfl⟩
    have P12 := Lib.hid hP
    have BX12 : Hid (wc12.heap[pb]? = some (.cells #[.int .i64 0, .slice none 0 0, .slice none 0 0, .slice none 0 0] 134 (0, 0)) ∧ (w.heap.size ≤ pb ∧ r8 < pb) ∧ pb < wc12.heap.size ∧ ∀ x ∈ ([(.slice au2 j cu2, b.take j), (.slice au1 i cu1, a.take i)] : List (Value × List (List UInt8))), x.1.ownBlock ≠ some pb) := Lib.hid ⟨(hs.block pb BX11.out.2.2.1 (fun e => by have := BX11.out.2.1; omega)).trans BX11.out.1, BX11.out.2.1, Nat.lt_of_lt_of_le BX11.out.2.2.1 hs.size, fun x hx => by
        rcases List.mem_cons.1 hx with rfl | hx
        · exact fun e => by have := hlo pb e; have := BX11.out.2.2.1; omega
        · exact BX11.out.2.2.2 x hx⟩
    clear BX11
    clear hP hs hlo P11
    try go_wp2_with fail
    refine hK.out _ _ (by trivial) (fun hHeld => ?_)
    clear hK K
    try simp only [Act.put, List.setIfInBounds_toArray, List.set_cons_zero, List.set_cons_succ]
    refine wpAnyH_ready (rs := [14]) (by kernel_rfl) (by simp) ?_
    refine AllReadyH.cons (o := ⟨_, _, _, _, _, _⟩) rfl (fun K hK => ?_) AllReadyH.nil
    go_simp
    refine (P12.out.cut2 k HS.out HNE.out hrb hk hcl).mono ?_
    rintro e wc13 ⟨u3, rfl, hP, hs, hlo, au3, cu3, rfl⟩
    have P13 := Lib.hid hP
    have BX13 : Hid (wc13.heap[pb]? = some (.cells #[.int .i64 0, .slice none 0 0, .slice none 0 0, .slice none 0 0] 134 (0, 0)) ∧ (w.heap.size ≤ pb ∧ r8 < pb) ∧ pb < wc13.heap.size ∧ ∀ x ∈ ([(.slice au3 k cu3, c.take k), (.slice au2 j cu2, b.take j), (.slice au1 i cu1, a.take i)] : List (Value × List (List UInt8))), x.1.ownBlock ≠ some pb) := Lib.hid ⟨(hs.block pb BX12.out.2.2.1 (fun e => by have := BX12.out.2.1; omega)).trans BX12.out.1, BX12.out.2.1, Nat.lt_of_lt_of_le BX12.out.2.2.1 hs.size, fun x hx => by
        rcases List.mem_cons.1 hx with rfl | hx
        · exact fun e => by have := hlo pb e; have := BX12.out.2.2.1; omega
        · exact BX12.out.2.2.2 x hx⟩
    clear BX12
    clear hP hs hlo P12
    try go_wp2_with fail
    refine hK.out _ _ (by trivial) (fun hHeld => ?_)
    clear hK K
    try simp only [Act.put, List.setIfInBounds_toArray, List.set_cons_zero, List.set_cons_succ]
    refine wpAnyH_take (i := 15) (oi := ⟨_, _, _, _, _, _⟩) (v := ?_) rfl (by kernel_rfl) (by kernel_rfl) (by kernel_rfl) (fun _ _ _ h => h) (Or.inl ⟨by rfl, ?_⟩) (by assumption) ?_
    rotate_left
    · intro w hSw; (try dsimp only at hSw); first | (go_simp; done) | (go_simp; with_reducible rfl)
    try simp only [Act.put, List.setIfInBounds_toArray, List.set_cons_zero, List.set_cons_succ]
    refine wpAnyH_ready (rs := [17]) (by kernel_rfl) (by simp) ?_
    refine AllReadyH.cons (o := ⟨_, _, _, _, _, _⟩) rfl (fun K hK => ?_) AllReadyH.nil
    have PE := Lib.hid (P13.out.fin BX13.out.2.1.1 BX13.out.2.2.2)
    have RES : Hid (wc13.heap[r8]? = some (.cells #[.int .i64 0, .slice none 0 0, .slice none 0 0, .slice none 0 0] 134 (0, 0)) ∧ w.heap.size ≤ r8 ∧ r8 < wc13.heap.size) := Lib.hid ⟨P13.out.res, P13.out.low, P13.out.high⟩
    obtain ⟨b0, b1, b2, b3⟩ := box4 (w' := wc13) BX13.out.1 rfl
    have z0 := frozen_box BX13.out.1 0
    have z1 := frozen_box BX13.out.1 1
    have z2 := frozen_box BX13.out.1 2
    have z3 := frozen_box BX13.out.1 3
    have hpr : r8 < pb ∧ pb < wc13.heap.size := ⟨BX13.out.2.1.2, BX13.out.2.2.1⟩
    go_simp
    try go_wp2_with fail
    refine hK.out _ _ (by trivial) (fun hHeld => ?_)
    clear hK K
    try simp only [Act.put, List.setIfInBounds_toArray, List.set_cons_zero, List.set_cons_succ]
    refine wpAnyH_done (by kernel_rfl) ?_ _
    clear hHeld
    have PE5 := Lib.hid (PE.out.on HS.out hrb ((set4_spares wc13 pb (.int .i64 0) (.slice au1 i cu1) (.slice au2 j cu2) (.slice au3 k cu3)).mono (fun _ e => Or.inl e)))
    obtain ⟨y0, y1, y2, y3⟩ := set4_cells b0 b1 b2 b3 (.int .i64 0) (.slice au1 i cu1) (.slice au2 j cu2) (.slice au3 k cu3)
    have RES5 : Hid ((set4 wc13 pb (.int .i64 0) (.slice au1 i cu1) (.slice au2 j cu2) (.slice au3 k cu3)).heap[r8]? = some (.cells #[.int .i64 0, .slice none 0 0, .slice none 0 0, .slice none 0 0] 134 (0, 0))) := Lib.hid (((set4_spares wc13 pb _ _ _ _).block r8 (by omega) (fun e => by omega)).trans RES.out.1)
    have FZ5 : Hid (∀ q, (set4 wc13 pb (.int .i64 0) (.slice au1 i cu1) (.slice au2 j cu2) (.slice au3 k cu3)).frozen? ⟨pb, q, none⟩ = wc13.frozen? ⟨pb, q, none⟩) := Lib.hid (fun q => by simp [set4])
    have hs5 : pb < (set4 wc13 pb (.int .i64 0) (.slice au1 i cu1) (.slice au2 j cu2) (.slice au3 k cu3)).heap.size := Nat.lt_of_lt_of_le hpr.2 (set4_spares wc13 pb _ _ _ _).size
    have x0 := (FZ5.out 0).trans z0
    obtain ⟨w5, hw5⟩ : ∃ W5, set4 wc13 pb (.int .i64 0) (.slice au1 i cu1) (.slice au2 j cu2) (.slice au3 k cu3) = W5 := ⟨_, rfl⟩
    rw [hw5] at PE5 y0 y1 y2 y3 RES5 hs5 x0
    unfold set4 at hw5
    rw [hw5]
    have hlr : r8 < pb := hpr.1
    clear hw5 FZ5 PE RES b0 b1 b2 b3 z0 z1 z2 z3 hpr P13 BX13
    go_wp2_with fail
    refine (kind_any _ _ _ 0 _ _ _ (a.take i) (b.take j) (c.take k) w5 (fun q e => (ownS_lt PE5.out.po.o1 q e).2) (fun q e => (ownS_lt PE5.out.po.o2 q e).2) (fun q e => (ownS_lt PE5.out.po.o3 q e).2) (ownS_strs PE5.out.po.o1) (ownS_strs PE5.out.po.o2) (ownS_strs PE5.out.po.o3) (by rw [List.length_take]; omega) (by rw [List.length_take]; omega) (by rw [List.length_take]; omega)).mono ?_
    rintro e w6 ⟨rfl, hb6⟩
    have PE6 := Lib.hid (PE5.out.on HS.out hrb (Spares.of_below hb6 _))
    have g0 := (hb6.cell (p := ⟨pb, 0, none⟩) hs5).trans y0
    have g1 := (hb6.cell (p := ⟨pb, 1, none⟩) hs5).trans y1
    have g2 := (hb6.cell (p := ⟨pb, 2, none⟩) hs5).trans y2
    have g3 := (hb6.cell (p := ⟨pb, 3, none⟩) hs5).trans y3
    have x6 := (World.frozen?_of_block (w := w5) (a := ⟨pb, 0, none⟩) (hb6.block pb hs5)).trans x0
    have RES6 := (hb6.block r8 (by omega)).trans RES5.out
    obtain ⟨b0, b1, b2, b3⟩ := box4 RES6 rfl
    have z0 := frozen_box RES6 0
    have z1 := frozen_box RES6 1
    have z2 := frozen_box RES6 2
    have z3 := frozen_box RES6 3
    obtain ⟨kk, hkk⟩ : ∃ kk, kindN (a.take i) (b.take j) (c.take k) = kk := ⟨_, rfl⟩
    have HKK := Lib.hid hkk
    rw [hkk]
    have hn1 : ¬ (pb = r8) := by omega
    have hn2 : ¬ (r8 = pb) := by omega
    clear hb6 y0 y1 y2 y3 x0 RES6 hkk PE5 RES5 hlr
    go_wp2_with fail
    have PE7 := PE6.out.on HS.out hrb ((Spares.of_set (fun q => q = pb ∨ q = r8) w6 pb 0 (.int .i64 kk) (Or.inl rfl)).trans ((set4_spares (w6.setCell ⟨pb, 0, none⟩ (.int .i64 kk)) r8 (.int .i64 kk) (.slice au1 i cu1) (.slice au2 j cu2) (.slice au3 k cu3)).mono (F' := fun q => q = pb ∨ q = r8) (fun _ e => Or.inr e)) (fun _ _ e => e))
    obtain ⟨r0, r1, r2, r3⟩ := set4_cells (w := w6.setCell ⟨pb, 0, none⟩ (.int .i64 kk)) ((World.cell?_setCell_other _ _ _ _ (by simp)).trans b0) ((World.cell?_setCell_other _ _ _ _ (by simp)).trans b1) ((World.cell?_setCell_other _ _ _ _ (by simp)).trans b2) ((World.cell?_setCell_other _ _ _ _ (by simp)).trans b3) (.int .i64 kk) (.slice au1 i cu1) (.slice au2 j cu2) (.slice au3 k cu3)
    unfold set4 at r0 r1 r2 r3 PE7
    exact bodyPost_ret (v := .agg #[.int .i64 kk, .slice au1 i cu1, .slice au2 j cu2, .slice au3 k cu3]) (by simp [results, Tryd.results69, go_sem, r0, r1, r2, r3]) rfl ⟨_, _, _, by rw [HKK.out], PE7.po.mono (Nat.le_refl _) (fun q e => ⟨(PE7.po.g1 q e).1, (PE7.po.g1 q e).2.1⟩) (fun q e => ⟨(PE7.po.g2 q e).1, (PE7.po.g2 q e).2.1⟩) (fun q e => ⟨(PE7.po.g3 q e).1, (PE7.po.g3 q e).2.1⟩), PE7.rest, PE7.sp⟩
end Go.Proofs.YtjlpdoppnhcjoaaDoor
