/- Bytes in memory: rows of one's own, slices that hold given bytes, appends onto an owned row, conversions; rows of ints. -/
import Derived.Test.YtaajfekolokaoaaRows
import Derived.WalkKit
import Derived.WalkSpells
import Derived.WalkLawsBesides
import Derived.Lib.Hide
import Derived.Laws.OwnMore
import Derived.Deep.AppendLies
import Derived.OneCell
import Derived.Deep.AppendSrc
import Derived.Laws.IdiomStrings
import Derived.Deep.Slices
namespace Go.Proofs.Ytaajfekolokaoaa
open Go.RowKit


def bv (l : List UInt8) : List Value := l.map fun c => .int .u8 c.toNat
/-- A slice of bytes of one's own, at or behind block B, that holds l. -/
def Own (w : World) (B : Nat) (v : Value) (l : List UInt8) : Prop := w.ownsRow B 5 1 v l.length (bv l)
theorem Try.info5 : (Try.prog.info? 5).map (fun i => (i.zero, i.size, i.bytes)) = some (some (.int .u8 0), 1, 1) := by kernel_rfl
theorem bv_append (l r : List UInt8) : bv (l ++ r) = bv l ++ bv r := by unfold bv; rw [List.map_append]
theorem own_nil (w : World) (B : Nat) : Own w B (.slice none 0 0) [] := World.ownsRow_nil _ _ _ _
theorem own_block {w : World} {B : Nat} {v : Value} {l : List UInt8} (h : Own w B v l) (k : Nat) (hk : v.ownBlock = some k) : B ≤ k := (World.ownsRow.lt h k hk).1
theorem own_one {w2 : World} {B : Nat} {v : Value} {l : List UInt8} {c : UInt8} (h : w2.ownsRow B 5 1 v (l.length + 1) (bv l ++ [.int .u8 c.toNat])) : Own w2 B v (l ++ [c]) := by
  unfold Own; rw [bv_append, List.length_append]; exact h

theorem own_push {w2 : World} {B : Nat} {v : Value} {l : List UInt8} {x : Int} (n : Nat) (hn : n < 256) (hx : x = (n : Int)) (h : w2.ownsRow B 5 1 v (l.length + 1) (bv l ++ [.int .u8 x])) : Own w2 B v (l ++ [UInt8.ofNat n]) := by
  apply own_one
  have : (UInt8.ofNat n).toNat = n := by simp; omega
  rw [this, ← hx]; exact h
theorem news_one (w : World) (x : Value) (t : TypeId) : ∀ j u, [x][j]? = some u → (w.alloc (.cells #[x] t)).cell? ((⟨w.heap.size, 0, none⟩ : Addr).add j) = some u := by
  intro j u h
  match j, h with
  | 0, h =>
    injection h with h
    subst h
    have h0 : (w.alloc (.cells #[x] t)).heap[w.heap.size]? = some (.cells #[x] t (0, 0)) := by
      show (w.heap.push _)[w.heap.size]? = _
      rw [Array.getElem?_push, if_pos rfl]
    exact cell_of_one h0
theorem one_cell8 (x : Int) : ∀ u ∈ [Value.int .u8 x], u.oneCell' = true := by
  intro u hu
  rw [List.mem_singleton] at hu
  subst hu; rfl
/-- What writing onto an owned row does to the memory that was there: nothing, but in the row itself. -/
structure Grew (w w' : World) (v v' : Value) : Prop where
  gb : w.grownBy w' v.ownBlock
  own : ∀ k, v'.ownBlock = some k → v.ownBlock = some k ∨ w.heap.size ≤ k
theorem Grew.refl (w : World) (v : Value) : Grew w w v v := ⟨⟨rfl, rfl, rfl, Nat.le_refl _, fun _ _ _ => rfl⟩, fun _ h => Or.inl h⟩
theorem Grew.size {w w' : World} {v v' : Value} (h : Grew w w' v v') : w.heap.size ≤ w'.heap.size := h.gb.size
theorem Grew.trans {w w1 w2 : World} {v v1 v2 : Value} (h : Grew w w1 v v1) (k : Grew w1 w2 v1 v2) : Grew w w2 v v2 := by
  refine ⟨⟨k.gb.os.trans h.gb.os, k.gb.tape.trans h.gb.tape, k.gb.output.trans h.gb.output, Nat.le_trans h.size k.size, fun j hj hne => ?_⟩, fun j hj => ?_⟩
  · rw [k.gb.block j (Nat.lt_of_lt_of_le hj h.size) (fun e => ?_), h.gb.block j hj hne]
    rcases h.own j e.symm with e2 | e2
    · exact hne e2.symm
    · omega
  · rcases k.own j hj with e | e
    · exact h.own j e
    · exact Or.inr (Nat.le_trans h.size e)
theorem Grew.alloc (w : World) (v : Value) (o : Obj) : Grew w (w.alloc o) v v := ⟨World.grownBy_alloc w o _, fun _ h => Or.inl h⟩
theorem new_block {w : World} {v : Value} (n c : Nat) (k : Nat) (h : (Value.slice (some ⟨w.heap.size, 0, none⟩) n c).ownBlock = some k) : v.ownBlock = some k ∨ w.heap.size ≤ k := by
  simp [Value.ownBlock] at h; omega
theorem Grew.below {B : Nat} {w w' : World} {v v' : Value} {l : List UInt8} (h : Grew w w' v v') (hO : Own w B v l) (hB : B ≤ w.heap.size) : Below B w w' :=
  (Below.refl B w).grown h.gb hB (fun k hk => own_block hO k hk)
theorem Grew.cell {w w' : World} {v v' : Value} (h : Grew w w' v v') {p : Addr} (hp : p.block < w.heap.size) (hne : v.ownBlock ≠ some p.block) : w'.cell? p = w.cell? p :=
  World.cell?_of_block (w := w) (h.gb.block p.block hp (fun e => hne e.symm))
theorem run_own_src {P : Program} (w : World) (base : Nat) (t tx ty e : TypeId) (i : TypeInfo) (z : Value) (size bytes : Nat) (ht : P.underlying t = some (.slice e)) (hi : P.info? e = some i) (hz : i.zero = some z)
    (hsize : i.size = size) (hby : i.bytes = bytes) (hzs : z.cells.size = size) (hsz : 0 < size)
    (v : Value) (n : Nat) (xs : List Value) (hown : w.ownsRow base e size v n xs)
    (x : Value) (m : Nat) (news : List Value) (hs : Src P size tx x m news w)
    (h63 : n + m ≤ maxLen) (hbytes : (n + m) * bytes ≤ 140737488355328) (hbase : base ≤ w.heap.size) :
    ∃ v' w', (Builtin.append_ #[t, tx] ty #[v, x]).run P w = .ok v' w' ∧ w'.ownsRow base e size v' (n + m) (xs ++ news) ∧ Grew w w' v v' := by
  subst hsize
  subst hby
  have hl := hs.newsLen
  have hsmall : n + m ≤ 9223372036854775807 := by simp only [maxLen] at h63; omega
  have hlen : (xs ++ news).length = (n + m) * i.size := by rw [List.length_append, hown.1, hl, Nat.add_mul]
  have grown : ∀ (old : Nat), old < n + m → ∀ (row : Option Nat),
      (w.drew.alloc (.cells ((xs ++ news).toArray ++ Builtin.zeroCells z.cells (grownCap w (n + m) old e - (n + m))) e)).ownsRow base e i.size
        (.slice (some ⟨w.heap.size, 0, none⟩) (n + m) (grownCap w (n + m) old e)) (n + m) (xs ++ news) ∧
      w.grownBy (w.drew.alloc (.cells ((xs ++ news).toArray ++ Builtin.zeroCells z.cells (grownCap w (n + m) old e - (n + m))) e)) row := by
    intro old ho row
    have hge := grownCap_ge w (n + m) old e
    have hcm : grownCap w (n + m) old e ≤ maxLen := grownCap_le_maxLen w (n + m) old e h63
    refine ⟨⟨hlen, .inr ⟨w.heap.size, _, _, rfl, hbase, heap_alloc_new w.drew _, hge, hcm, ?_, ?_⟩⟩, ⟨rfl, rfl, rfl, by simp, fun k hk _ => Below.heap_alloc w.drew _ k hk⟩⟩
    · simp only [Array.size_append, List.size_toArray, size_zeroCells, hzs, hlen, ← Nat.add_mul]
      congr 1
      omega
    · simp only [Array.toList_append]
      rw [← hlen]
      exact List.take_left
  rcases hown.2 with ⟨rfl, rfl⟩ | ⟨g, cap, cur, rfl, hbg, hg, hnc, hcm, hcs, htake⟩
  · have hx : xs = [] := List.eq_nil_of_length_eq_zero (by simpa using hown.1)
    subst hx
    by_cases hm : m = 0
    · subst hm
      have hn : news = [] := List.eq_nil_of_length_eq_zero (by simpa using hl)
      subst hn
      refine ⟨.slice none 0 0, w, ?_, World.ownsRow_nil w base e i.size, ⟨⟨rfl, rfl, rfl, Nat.le_refl _, fun _ _ _ => rfl⟩, fun k hk => Or.inl hk⟩⟩
      have hc := hs.cells
      have hlen0 := hs.len
      rcases hs.kind with ⟨e', hk⟩ | hk <;> simp [Builtin.append_, run_underlying ht, run_underlying hk, sizeOf, typeInfo, hi, hlen0, hc]
    · have hr := run_append_grow_src (P := P) w t tx ty e i z ht hi hz none 0 0 [] (run_firstCells_none _ _ _ _ _) x m news hs (by omega) (by omega) (growslice_fits (by omega) (by simpa using hbytes))
      have hgr := grown 0 (by omega) (Value.ownBlock (.slice none 0 0))
      simp only [Nat.zero_add, List.nil_append] at hgr hr ⊢
      exact ⟨_, _, hr, hgr.1, hgr.2, fun k hk => new_block _ _ k hk⟩
  · by_cases hroom : n + m ≤ cap
    · have hfit : n * i.size + news.length ≤ cur.size := by rw [hl, hcs, ← Nat.add_mul]; exact Nat.mul_le_mul_right _ hroom
      have hst := run_storeCells_at P g (n * i.size) e news 0 cur w hg (by simpa using hfit) hs.one
      simp only [Nat.add_zero] at hst
      have hc := hs.cells
      have hlen0 := hs.len
      have hr : (Builtin.append_ #[t, tx] ty #[.slice (some ⟨g, 0, none⟩) n cap, x]).run P w =
          .ok (.slice (some ⟨g, 0, none⟩) (n + m) cap) (w.setRow g (cur.toList.take (n * i.size) ++ news ++ cur.toList.drop (n * i.size + news.length)).toArray) := by
        rcases hs.kind with ⟨e', hk⟩ | hk <;> simp [Builtin.append_, run_underlying ht, run_underlying hk, sizeOf, typeInfo, hi, hlen0, hroom, hc, Addr.add_lit, hst]
      refine ⟨_, _, hr, ⟨hlen, .inr ⟨g, cap, _, rfl, hbg, setRow_heap w g cur _ e _ hg, hroom, hcm, ?_, ?_⟩⟩, ⟨⟨rfl, rfl, rfl, by simp, fun k _ hk => setRow_other w g k _ (fun e => hk (by simp [Value.ownBlock, e]))⟩, fun k hk => Or.inl (by simpa [Value.ownBlock] using hk)⟩⟩
      · simp only [List.size_toArray, List.length_append, List.length_take, List.length_drop, Array.length_toList]
        omega
      · rw [htake, ← hlen]
        exact List.take_left
    · have holds : ∀ j u, xs[j]? = some u → w.cell? ((⟨g, 0, none⟩ : Addr).add j) = some u := hown.cells (g := g) rfl
      have hold : (Builtin.firstCells i.size n (.slice (some ⟨g, 0, none⟩) n cap)).run P w.drew = .ok xs.toArray w.drew := run_firstCells_some w.drew i.size n _ n cap xs hown.1 (by simpa using holds)
      have hr := run_append_grow_src (P := P) w t tx ty e i z ht hi hz (some ⟨g, 0, none⟩) n cap xs hold x m news hs (by omega) (by omega) (growslice_fits (by omega) hbytes)
      have hgr := grown cap (by omega) (Value.ownBlock (.slice (some ⟨g, 0, none⟩) n cap))
      exact ⟨_, _, hr, hgr.1, hgr.2, fun k hk => new_block _ _ k hk⟩
theorem wpList_own_src {P : Program} {ops : Array Oper} {rest : List Oper} {o : Oper} {a : Act} {Q : Exit → Act → World → Prop} (w : World) (hgd : o.guard = none) (s x : Operand) (t tx : TypeId)
    (ho : o.op = .call { callee := .builtin .append, args := #[s, x], argTypes := #[t, tx] })
    (base : Nat) (e : TypeId) (i : TypeInfo) (z : Value) (size bytes : Nat) (ht : P.underlying t = some (.slice e)) (hi : P.info? e = some i) (hz : i.zero = some z)
    (hsize : i.size = size) (hby : i.bytes = bytes) (hzs : z.cells.size = size) (hsz : 0 < size)
    (v : Value) (n : Nat) (xs : List Value) (hv : a.eval s = v) (hown : w.ownsRow base e size v n xs)
    (xv : Value) (m : Nat) (news : List Value) (hx : a.eval x = xv) (hs : Src P size tx xv m news w)
    (h63 : n + m ≤ maxLen) (hbytes : (n + m) * bytes ≤ 140737488355328) (hbase : base ≤ w.heap.size)
    (h : ∀ v' w', w'.ownsRow base e size v' (n + m) (xs ++ news) → Grew w w' v v' → wpList P ops Q rest (a.put o.dst v') w') : wpList P ops Q (o :: rest) a w :=
  wpList_plain hgd fun _ hK => by
    obtain ⟨v', w', hr, h2, h3⟩ := run_own_src (P := P) w base t tx o.type e i z size bytes ht hi hz hsize hby hzs hsz v n xs hown xv m news hs h63 hbytes hbase
    unfold Oper.wp execOp
    simp only [ho, resolve, invoke, builtin, Sem.run_bind, Sem.run_pure, Result.andThen_ok, List.map_toArray, List.map_cons, List.map_nil, hv, hx, hr]
    exact hK _ _ (h v' w' h2 h3)

theorem add_block (a : Addr) (j : Nat) : (a.add j).block = a.block := by unfold Addr.add; split <;> rfl
theorem bv_one (l : List UInt8) : ∀ u ∈ bv l, u.oneCell' = true := by
  intro u hu
  unfold bv at hu
  obtain ⟨c, _, rfl⟩ := List.mem_map.1 hu
  rfl
theorem bv_len (l : List UInt8) : (bv l).length = l.length := by unfold bv; simp
theorem own_more {w2 : World} {B : Nat} {v : Value} {l r : List UInt8} (h : w2.ownsRow B 5 1 v (l.length + r.length) (bv l ++ bv r)) : Own w2 B v (l ++ r) := by
  unfold Own; rw [bv_append, List.length_append]; exact h


theorem own_more' {w2 : World} {B n : Nat} {v : Value} {l r : List UInt8} (hn : n = l.length + r.length) (h : w2.ownsRow B 5 1 v n (bv l ++ bv r)) : Own w2 B v (l ++ r) := by
  subst hn; exact own_more h
theorem own_slice {w : World} {B : Nat} {v : Value} {l : List UInt8} (h : Own w B v l) : ∃ a cap, v = .slice a l.length cap := by
  rcases h.2 with ⟨e, hn⟩ | ⟨g, cap, cur, e, _⟩
  · rw [hn]; exact ⟨none, 0, e⟩
  · exact ⟨_, _, e⟩


/-- A slice value whose cells, all in blocks of S, hold these bytes. -/
def BytesC (S : Nat → Prop) (w : World) (v : Value) (l : List UInt8) : Prop :=
  (v = .slice none 0 0 ∧ l = []) ∨ ∃ a cap, v = .slice (some a) l.length cap ∧ l.length ≤ cap ∧ cap ≤ maxLen ∧ (l = [] ∨ S a.block) ∧ ∀ j u, (bv l)[j]? = some u → w.cell? (a.add j) = some u
theorem BytesC.kept {S S' : Nat → Prop} {w w' : World} {v : Value} {l : List UInt8} (h : BytesC S w v l) (hk : ∀ k, S k → S' k ∧ w'.heap[k]? = w.heap[k]?) : BytesC S' w' v l := by
  rcases h with h | ⟨a, cap, h1, h2, h3, h4, h5⟩
  · exact Or.inl h
  · refine Or.inr ⟨a, cap, h1, h2, h3, h4.imp_right (fun h => (hk _ h).1), fun j u hj => ?_⟩
    rcases h4 with rfl | h4
    · simp [bv] at hj
    · rw [World.cell?_of_block (w := w) (by rw [add_block]; exact (hk _ h4).2)]; exact h5 j u hj
theorem bv_drop (l : List UInt8) (n : Nat) : bv (l.drop n) = (bv l).drop n := by unfold bv; rw [List.map_drop]
theorem bv_take (l : List UInt8) (n : Nat) : bv (l.take n) = (bv l).take n := by unfold bv; rw [List.map_take]
theorem kb_refl (w : World) (row : Option Nat) : w.grownBy w row := ⟨rfl, rfl, rfl, Nat.le_refl _, fun _ _ _ => rfl⟩
theorem kb_trans {w w1 w2 : World} {row : Option Nat} (h : w.grownBy w1 row) (k : w1.grownBy w2 row) : w.grownBy w2 row :=
  ⟨k.os.trans h.os, k.tape.trans h.tape, k.output.trans h.output, Nat.le_trans h.size k.size, fun j hj hne => (k.block j (Nat.lt_of_lt_of_le hj h.size) hne).trans (h.block j hj hne)⟩
theorem kb_alloc {w w1 : World} {row : Option Nat} (h : w.grownBy w1 row) (o : Obj) : w.grownBy (w1.alloc o) row := kb_trans h (World.grownBy_alloc w1 o row)
theorem kb_set (w : World) (rb j : Nat) (v : Value) : w.grownBy (w.setCell ⟨rb, j, none⟩ v) (some rb) :=
  ⟨rfl, rfl, rfl, by simp, fun k _ hne => Below.heap_setCell _ _ _ _ (fun e => hne (by rw [e]))⟩
theorem kb_below {w w1 : World} {rb B : Nat} (h : w.grownBy w1 (some rb)) (hB : B ≤ rb) (hB2 : B ≤ w.heap.size) : Below B w w1 :=
  (Below.refl B w).grown h hB2 (fun k hk => by injection hk with hk; omega)


theorem own_c {w : World} {B : Nat} {v : Value} {l : List UInt8} (h : Own w B v l) : BytesC (fun k => B ≤ k ∧ k < w.heap.size) w v l := by
  rcases h.2 with ⟨rfl, hn⟩ | ⟨g, cap, cur, rfl, hB, hg, hnc, hcm, _⟩
  · exact Or.inl ⟨rfl, List.length_eq_zero_iff.1 hn⟩
  · exact Or.inr ⟨_, cap, rfl, hnc, hcm, Or.inr ⟨hB, (Array.getElem?_eq_some_iff.1 hg).1⟩, World.ownsRow.cells h rfl⟩
theorem own_empty (w : World) : Own (w.alloc (.cells #[] 5)) w.heap.size (.slice (some ⟨w.heap.size, 0, none⟩) 0 0) [] := by
  refine ⟨rfl, Or.inr ⟨w.heap.size, 0, #[], rfl, Nat.le_refl _, ?_, Nat.le_refl _, by unfold maxLen; omega, rfl, rfl⟩⟩
  show (w.heap.push _)[w.heap.size]? = _
  rw [Array.getElem?_push, if_pos rfl]
theorem frozen_block {w w' : World} {p : Addr} (h : w'.heap[p.block]? = w.heap[p.block]?) : w'.frozen? p = w.frozen? p := by
  unfold World.frozen?; rw [h]
theorem kb_grew {B rb : Nat} {w w1 w2 : World} {v v' : Value} (h : w.grownBy w1 (some rb)) (g : Grew w1 w2 v v') (hB : w.heap.size ≤ B) (hv : ∀ k, v.ownBlock = some k → B ≤ k) : w.grownBy w2 (some rb) :=
  ⟨g.gb.os.trans h.os, g.gb.tape.trans h.tape, g.gb.output.trans h.output, Nat.le_trans h.size g.size, fun j hj hne => by
    rw [g.gb.block j (Nat.lt_of_lt_of_le hj h.size) (fun e => by have := hv j e.symm; omega), h.block j hj hne]⟩


theorem BytesC.shape {S : Nat → Prop} {w : World} {v : Value} {l : List UInt8} (h : BytesC S w v l) : ∃ a cap, v = .slice a l.length cap := by
  rcases h with ⟨rfl, rfl⟩ | ⟨a, cap, rfl, _⟩
  · exact ⟨none, 0, rfl⟩
  · exact ⟨_, _, rfl⟩
theorem BytesC.alloc {S : Nat → Prop} {w : World} {v : Value} {l : List UInt8} (h : BytesC S w v l) (hS : ∀ k, S k → k < w.heap.size) (o : Obj) : BytesC S (w.alloc o) v l :=
  h.kept (fun k hk => ⟨hk, Below.heap_alloc w o k (hS k hk)⟩)
theorem of_below {w w' : World} (h : Below w.heap.size w w') : w.grownBy w' none := ⟨h.os, h.tape, h.output, h.size, fun k hk _ => h.block k hk⟩
theorem below_of {w w' : World} (h : w.grownBy w' none) : Below w.heap.size w w' := ⟨h.os, h.tape, h.output, h.size, fun k hk => h.block k hk (by simp)⟩
theorem idx_lt {s : List UInt8} {i : Nat} (h : i < s.length) : i < (⟨s.toArray⟩ : ByteArray).size := by simpa [ByteArray.size] using h
theorem idx_eq (s : List UInt8) (i : Nat) (h : i < s.length) : (⟨s.toArray⟩ : ByteArray)[i]'(idx_lt h) = s[i] := by
  rw [ByteArray.getElem_eq_getElem_data]; simp
theorem extract_list (s : List UInt8) (i j : Nat) : (⟨s.toArray⟩ : ByteArray).extract i j = ⟨((s.drop i).take (j - i)).toArray⟩ := by
  apply ByteArray.ext
  simp [ByteArray.data_extract, List.extract_eq_take_drop]
theorem new_five (w : World) (cs : Array Value) (t : TypeId) : (w.alloc (.cells cs t)).heap[w.heap.size]? = some (.cells cs t (0, 0)) := by
  show (w.heap.push _)[w.heap.size]? = _
  rw [Array.getElem?_push, if_pos rfl]
theorem kb_put {w w1 : World} {row : Option Nat} {p : Addr} (h : w.grownBy w1 row) (hb : w.heap.size ≤ p.block) (v : Value) : w.grownBy (w1.setCell p v) row :=
  ⟨h.os, h.tape, h.output, by simpa using h.size, fun k hk hne => (Below.heap_setCell _ _ _ _ (by omega)).trans (h.block k hk hne)⟩
theorem kb_any {w w' : World} (h : Below w.heap.size w w') (row : Option Nat) : w.grownBy w' row := ⟨h.os, h.tape, h.output, h.size, fun k hk _ => h.block k hk⟩


theorem u8_of (n : Nat) (h : n < 256) : (UInt8.ofNat n).toNat = n := by simp; omega
theorem own_below {w w' : World} {B E size n : Nat} {v : Value} {xs : List Value} (h : w.ownsRow B E size v n xs) (hk : ∀ k, B ≤ k → k < w.heap.size → w'.heap[k]? = w.heap[k]?) : w'.ownsRow B E size v n xs := by
  refine ⟨h.1, ?_⟩
  rcases h.2 with h2 | ⟨g, cap, cur, e1, e2, e3, e4⟩
  · exact Or.inl h2
  · exact Or.inr ⟨g, cap, cur, e1, e2, (hk g e2 (Array.getElem?_eq_some_iff.1 e3).1).trans e3, e4⟩


theorem cut_c {S : Nat → Prop} {w : World} {a : Addr} {l : List UInt8} {cap : Nat} (h : BytesC S w (.slice (some a) l.length cap) l) (j : Nat) (hj : j ≤ l.length) : BytesC S w (.slice (some a) j cap) (l.take j) := by
  rcases h with ⟨h, _⟩ | ⟨a', cap', h1, h2, h3, h4, h5⟩
  · cases h
  · injection h1 with h1 _ h1'
    injection h1 with h1
    subst h1 h1'
    have e : (l.take j).length = j := by rw [List.length_take]; omega
    refine Or.inr ⟨a, cap, by rw [e], by omega, h3, h4.imp_left (fun h => by rw [h]; simp), fun i u hi => ?_⟩
    rw [bv_take, List.getElem?_take] at hi
    split at hi
    · exact h5 i u hi
    · cases hi
theorem bv_set (l : List UInt8) (j n : Nat) (h : n < 256) : (bv l).set j (.int .u8 n) = bv (l.set j (UInt8.ofNat n)) := by
  unfold bv
  rw [List.map_set, u8_of n h]
theorem Own.kept {w w' : World} {B : Nat} {v : Value} {l : List UInt8} (h : Own w B v l) (hk : ∀ k, v.ownBlock = some k → w'.heap[k]? = w.heap[k]?) : Own w' B v l := by
  refine ⟨h.1, ?_⟩
  rcases h.2 with h2 | ⟨g, cap, cur, e1, e2, e3, e4⟩
  · exact Or.inl h2
  · exact Or.inr ⟨g, cap, cur, e1, e2, (hk g (by rw [e1]; rfl)).trans e3, e4⟩


theorem slice_of_val {P : Program} {w : World} {r : Reach} {b0 : Nat} {t e : TypeId} {v : Value} (ht : P.underlying t = some (.slice e)) (hval : Value.okWide P w r b0 t v) : ∃ a n c, v = .slice a n c := by
  unfold Value.okWide at hval
  rw [ht] at hval
  unfold Cell.okWide at hval
  rw [ht] at hval
  unfold Cell.ok at hval
  rw [ht] at hval
  cases v <;> simp_all
theorem add_none (a : Addr) : a.add 0 = a := by unfold Addr.add; rw [if_pos rfl]
def byteAt (w : World) (a : Addr) : UInt8 := match w.cell? a with
  | some (.int _ c) => UInt8.ofNat c.toNat
  | _ => 0

theorem BytesC.drewN {S : Nat → Prop} {w : World} {v : Value} {l : List UInt8} (h : BytesC S w v l) (n : Nat) : BytesC S (w.drewN n) v l := h.kept (fun _ hk => ⟨hk, rfl⟩)
theorem BytesC.drop {S : Nat → Prop} {w : World} {a : Addr} {l : List UInt8} {cap : Nat} (h : BytesC S w (.slice (some a) l.length cap) l) (j : Nat) (hj : j ≤ l.length) (hjc : j < cap) : BytesC S w (.slice (some (a.add j)) (l.length - j) (cap - j)) (l.drop j) := by
  rcases h with ⟨h, _⟩ | ⟨a', cap', h1, h2, h3, h4, h5⟩
  · cases h
  · injection h1 with h1 _ h1'
    injection h1 with h1
    subst h1 h1'
    have e : (l.drop j).length = l.length - j := by rw [List.length_drop]
    refine Or.inr ⟨a.add j, cap - j, by rw [e], by omega, by omega, (h4.imp_left (fun h => by rw [h]; simp)).imp_right (fun h => by rw [add_block]; exact h), fun i u hi => ?_⟩
    rw [bv_drop, List.getElem?_drop] at hi
    rw [Go.Deep.add_add]
    exact h5 _ u hi
theorem below_drewN (B : Nat) (w : World) (n : Nat) : Below B w (w.drewN n) := ⟨rfl, rfl, rfl, Nat.le_refl _, fun _ _ => rfl⟩
end Go.Proofs.Ytaajfekolokaoaa
