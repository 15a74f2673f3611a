/- Bytes of one's own, heads, and appends onto an owned row, of whatever is appended (a slice, nil, a string's bytes). -/
import Derived.Test.YtgppadnbfggkcaaRows
import Derived.WalkKit
import Derived.WalkSpells
import Derived.WalkLawsBesides
import Derived.Lib.Hide
import Derived.Laws.OwnMore
import Derived.Deep.AppendLies
import Derived.OneCell
import Derived.Deep.AppendSrc
import Derived.Laws.IdiomStrings
namespace Go.Proofs.Ytgppadnbfggkcaa
open Go.RowKit

def bv (l : List UInt8) : List Value := l.map fun c => .int .u8 c.toNat
/-- A slice of bytes of one's own, at or behind block B, that holds l. -/
def Own (w : World) (B : Nat) (v : Value) (l : List UInt8) : Prop := w.ownsRow B 5 1 v l.length (bv l)
theorem Try.info5 : (Try.prog.info? 5).map (fun i => (i.zero, i.size, i.bytes)) = some (some (.int .u8 0), 1, 1) := by kernel_rfl
theorem bv_append (l r : List UInt8) : bv (l ++ r) = bv l ++ bv r := by unfold bv; rw [List.map_append]
theorem own_nil (w : World) (B : Nat) : Own w B (.slice none 0 0) [] := World.ownsRow_nil _ _ _ _
theorem own_block {w : World} {B : Nat} {v : Value} {l : List UInt8} (h : Own w B v l) (k : Nat) (hk : v.ownBlock = some k) : B ≤ k := (World.ownsRow.lt h k hk).1
theorem own_one {w2 : World} {B : Nat} {v : Value} {l : List UInt8} {c : UInt8} (h : w2.ownsRow B 5 1 v (l.length + 1) (bv l ++ [.int .u8 c.toNat])) : Own w2 B v (l ++ [c]) := by
  unfold Own; rw [bv_append, List.length_append]; exact h

theorem own_push {w2 : World} {B : Nat} {v : Value} {l : List UInt8} {x : Int} (n : Nat) (hn : n < 256) (hx : x = (n : Int)) (h : w2.ownsRow B 5 1 v (l.length + 1) (bv l ++ [.int .u8 x])) : Own w2 B v (l ++ [UInt8.ofNat n]) := by
  apply own_one
  have : (UInt8.ofNat n).toNat = n := by simp; omega
  rw [this, ← hx]; exact h
/-- What stands of a head from a part on. -/
def headL (part n : Nat) : List UInt8 := if n = 0 then [UInt8.ofNat part] else UInt8.ofNat (part + 128) :: headL (n % 128) (n / 128)
termination_by n
decreasing_by omega
/-- A head: a kind and a number. -/
def headB (k n : Nat) : List UInt8 := headL (n % 32 * 4 + k) (n / 32)
theorem headL_len : ∀ (j part n : Nat), n < 128 ^ j → (headL part n).length ≤ j + 1
  | 0, part, n, h => by
    have : n = 0 := by simpa using h
    rw [headL, if_pos this]; simp
  | j + 1, part, n, h => by
    rw [headL]; split
    · simp
    · have : n / 128 < 128 ^ j := by rw [Nat.pow_succ] at h; omega
      have := headL_len j (n % 128) (n / 128) this
      simp; omega
theorem headB_len (k n : Nat) (h : n < 18446744073709551616) : (headB k n).length ≤ 11 := headL_len 10 _ _ (by
  have : (128 : Nat) ^ 10 = 1180591620717411303424 := by decide
  omega)
theorem news_one (w : World) (x : Value) (t : TypeId) : ∀ j u, [x][j]? = some u → (w.alloc (.cells #[x] t)).cell? ((⟨w.heap.size, 0, none⟩ : Addr).add j) = some u := by
  intro j u h
  match j, h with
  | 0, h =>
    injection h with h
    subst h
    have h0 : (w.alloc (.cells #[x] t)).heap[w.heap.size]? = some (.cells #[x] t (0, 0)) := by
      show (w.heap.push _)[w.heap.size]? = _
      rw [Array.getElem?_push, if_pos rfl]
    exact cell_of_one h0
theorem one_cell8 (x : Int) : ∀ u ∈ [Value.int .u8 x], u.oneCell' = true := by
  intro u hu
  rw [List.mem_singleton] at hu
  subst hu; rfl
/-- What writing onto an owned row does to the memory that was there: nothing, but in the row itself. -/
structure Grew (w w' : World) (v v' : Value) : Prop where
  gb : w.grownBy w' v.ownBlock
  own : ∀ k, v'.ownBlock = some k → v.ownBlock = some k ∨ w.heap.size ≤ k
theorem Grew.refl (w : World) (v : Value) : Grew w w v v := ⟨⟨rfl, rfl, rfl, Nat.le_refl _, fun _ _ _ => rfl⟩, fun _ h => Or.inl h⟩
theorem Grew.size {w w' : World} {v v' : Value} (h : Grew w w' v v') : w.heap.size ≤ w'.heap.size := h.gb.size
theorem Grew.trans {w w1 w2 : World} {v v1 v2 : Value} (h : Grew w w1 v v1) (k : Grew w1 w2 v1 v2) : Grew w w2 v v2 := by
  refine ⟨⟨k.gb.os.trans h.gb.os, k.gb.tape.trans h.gb.tape, k.gb.output.trans h.gb.output, Nat.le_trans h.size k.size, fun j hj hne => ?_⟩, fun j hj => ?_⟩
  · rw [k.gb.block j (Nat.lt_of_lt_of_le hj h.size) (fun e => ?_), h.gb.block j hj hne]
    rcases h.own j e.symm with e2 | e2
    · exact hne e2.symm
    · omega
  · rcases k.own j hj with e | e
    · exact h.own j e
    · exact Or.inr (Nat.le_trans h.size e)
theorem Grew.alloc (w : World) (v : Value) (o : Obj) : Grew w (w.alloc o) v v := ⟨World.grownBy_alloc w o _, fun _ h => Or.inl h⟩
theorem new_block {w : World} {v : Value} (n c : Nat) (k : Nat) (h : (Value.slice (some ⟨w.heap.size, 0, none⟩) n c).ownBlock = some k) : v.ownBlock = some k ∨ w.heap.size ≤ k := by
  simp [Value.ownBlock] at h; omega
theorem Grew.below {B : Nat} {w w' : World} {v v' : Value} {l : List UInt8} (h : Grew w w' v v') (hO : Own w B v l) (hB : B ≤ w.heap.size) : Below B w w' :=
  (Below.refl B w).grown h.gb hB (fun k hk => own_block hO k hk)
theorem Grew.cell {w w' : World} {v v' : Value} (h : Grew w w' v v') {p : Addr} (hp : p.block < w.heap.size) (hne : v.ownBlock ≠ some p.block) : w'.cell? p = w.cell? p :=
  World.cell?_of_block (w := w) (h.gb.block p.block hp (fun e => hne e.symm))
theorem run_own_src {P : Program} (w : World) (base : Nat) (t tx ty e : TypeId) (i : TypeInfo) (z : Value) (size bytes : Nat) (ht : P.underlying t = some (.slice e)) (hi : P.info? e = some i) (hz : i.zero = some z)
    (hsize : i.size = size) (hby : i.bytes = bytes) (hzs : z.cells.size = size) (hsz : 0 < size)
    (v : Value) (n : Nat) (xs : List Value) (hown : w.ownsRow base e size v n xs)
    (x : Value) (m : Nat) (news : List Value) (hs : Src P size tx x m news w)
    (h63 : n + m ≤ maxLen) (hbytes : (n + m) * bytes ≤ 140737488355328) (hbase : base ≤ w.heap.size) :
    ∃ v' w', (Builtin.append_ #[t, tx] ty #[v, x]).run P w = .ok v' w' ∧ w'.ownsRow base e size v' (n + m) (xs ++ news) ∧ Grew w w' v v' := by
  subst hsize
  subst hby
  have hl := hs.newsLen
  have hsmall : n + m ≤ 9223372036854775807 := by simp only [maxLen] at h63; omega
  have hlen : (xs ++ news).length = (n + m) * i.size := by rw [List.length_append, hown.1, hl, Nat.add_mul]
  have grown : ∀ (old : Nat), old < n + m → ∀ (row : Option Nat),
      (w.drew.alloc (.cells ((xs ++ news).toArray ++ Builtin.zeroCells z.cells (grownCap w (n + m) old e - (n + m))) e)).ownsRow base e i.size
        (.slice (some ⟨w.heap.size, 0, none⟩) (n + m) (grownCap w (n + m) old e)) (n + m) (xs ++ news) ∧
      w.grownBy (w.drew.alloc (.cells ((xs ++ news).toArray ++ Builtin.zeroCells z.cells (grownCap w (n + m) old e - (n + m))) e)) row := by
    intro old ho row
    have hge := grownCap_ge w (n + m) old e
    have hcm : grownCap w (n + m) old e ≤ maxLen := grownCap_le_maxLen w (n + m) old e h63
    refine ⟨⟨hlen, .inr ⟨w.heap.size, _, _, rfl, hbase, heap_alloc_new w.drew _, hge, hcm, ?_, ?_⟩⟩, ⟨rfl, rfl, rfl, by simp, fun k hk _ => Below.heap_alloc w.drew _ k hk⟩⟩
    · simp only [Array.size_append, List.size_toArray, size_zeroCells, hzs, hlen, ← Nat.add_mul]
      congr 1
      omega
    · simp only [Array.toList_append]
      rw [← hlen]
      exact List.take_left
  rcases hown.2 with ⟨rfl, rfl⟩ | ⟨g, cap, cur, rfl, hbg, hg, hnc, hcm, hcs, htake⟩
  · have hx : xs = [] := List.eq_nil_of_length_eq_zero (by simpa using hown.1)
    subst hx
    by_cases hm : m = 0
    · subst hm
      have hn : news = [] := List.eq_nil_of_length_eq_zero (by simpa using hl)
      subst hn
      refine ⟨.slice none 0 0, w, ?_, World.ownsRow_nil w base e i.size, ⟨⟨rfl, rfl, rfl, Nat.le_refl _, fun _ _ _ => rfl⟩, fun k hk => Or.inl hk⟩⟩
      have hc := hs.cells
      have hlen0 := hs.len
      rcases hs.kind with ⟨e', hk⟩ | hk <;> simp [Builtin.append_, run_underlying ht, run_underlying hk, sizeOf, typeInfo, hi, hlen0, hc]
    · have hr := run_append_grow_src (P := P) w t tx ty e i z ht hi hz none 0 0 [] (run_firstCells_none _ _ _ _ _) x m news hs (by omega) (by omega) (growslice_fits (by omega) (by simpa using hbytes))
      have hgr := grown 0 (by omega) (Value.ownBlock (.slice none 0 0))
      simp only [Nat.zero_add, List.nil_append] at hgr hr ⊢
      exact ⟨_, _, hr, hgr.1, hgr.2, fun k hk => new_block _ _ k hk⟩
  · by_cases hroom : n + m ≤ cap
    · have hfit : n * i.size + news.length ≤ cur.size := by rw [hl, hcs, ← Nat.add_mul]; exact Nat.mul_le_mul_right _ hroom
      have hst := run_storeCells_at P g (n * i.size) e news 0 cur w hg (by simpa using hfit) hs.one
      simp only [Nat.add_zero] at hst
      have hc := hs.cells
      have hlen0 := hs.len
      have hr : (Builtin.append_ #[t, tx] ty #[.slice (some ⟨g, 0, none⟩) n cap, x]).run P w =
          .ok (.slice (some ⟨g, 0, none⟩) (n + m) cap) (w.setRow g (cur.toList.take (n * i.size) ++ news ++ cur.toList.drop (n * i.size + news.length)).toArray) := by
        rcases hs.kind with ⟨e', hk⟩ | hk <;> simp [Builtin.append_, run_underlying ht, run_underlying hk, sizeOf, typeInfo, hi, hlen0, hroom, hc, Addr.add_lit, hst]
      refine ⟨_, _, hr, ⟨hlen, .inr ⟨g, cap, _, rfl, hbg, setRow_heap w g cur _ e _ hg, hroom, hcm, ?_, ?_⟩⟩, ⟨⟨rfl, rfl, rfl, by simp, fun k _ hk => setRow_other w g k _ (fun e => hk (by simp [Value.ownBlock, e]))⟩, fun k hk => Or.inl (by simpa [Value.ownBlock] using hk)⟩⟩
      · simp only [List.size_toArray, List.length_append, List.length_take, List.length_drop, Array.length_toList]
        omega
      · rw [htake, ← hlen]
        exact List.take_left
    · have holds : ∀ j u, xs[j]? = some u → w.cell? ((⟨g, 0, none⟩ : Addr).add j) = some u := hown.cells (g := g) rfl
      have hold : (Builtin.firstCells i.size n (.slice (some ⟨g, 0, none⟩) n cap)).run P w.drew = .ok xs.toArray w.drew := run_firstCells_some w.drew i.size n _ n cap xs hown.1 (by simpa using holds)
      have hr := run_append_grow_src (P := P) w t tx ty e i z ht hi hz (some ⟨g, 0, none⟩) n cap xs hold x m news hs (by omega) (by omega) (growslice_fits (by omega) hbytes)
      have hgr := grown cap (by omega) (Value.ownBlock (.slice (some ⟨g, 0, none⟩) n cap))
      exact ⟨_, _, hr, hgr.1, hgr.2, fun k hk => new_block _ _ k hk⟩
theorem wpList_own_src {P : Program} {ops : Array Oper} {rest : List Oper} {o : Oper} {a : Act} {Q : Exit → Act → World → Prop} (w : World) (hgd : o.guard = none) (s x : Operand) (t tx : TypeId)
    (ho : o.op = .call { callee := .builtin .append, args := #[s, x], argTypes := #[t, tx] })
    (base : Nat) (e : TypeId) (i : TypeInfo) (z : Value) (size bytes : Nat) (ht : P.underlying t = some (.slice e)) (hi : P.info? e = some i) (hz : i.zero = some z)
    (hsize : i.size = size) (hby : i.bytes = bytes) (hzs : z.cells.size = size) (hsz : 0 < size)
    (v : Value) (n : Nat) (xs : List Value) (hv : a.eval s = v) (hown : w.ownsRow base e size v n xs)
    (xv : Value) (m : Nat) (news : List Value) (hx : a.eval x = xv) (hs : Src P size tx xv m news w)
    (h63 : n + m ≤ maxLen) (hbytes : (n + m) * bytes ≤ 140737488355328) (hbase : base ≤ w.heap.size)
    (h : ∀ v' w', w'.ownsRow base e size v' (n + m) (xs ++ news) → Grew w w' v v' → wpList P ops Q rest (a.put o.dst v') w') : wpList P ops Q (o :: rest) a w :=
  wpList_plain hgd fun _ hK => by
    obtain ⟨v', w', hr, h2, h3⟩ := run_own_src (P := P) w base t tx o.type e i z size bytes ht hi hz hsize hby hzs hsz v n xs hown xv m news hs h63 hbytes hbase
    unfold Oper.wp execOp
    simp only [ho, resolve, invoke, builtin, Sem.run_bind, Sem.run_pure, Result.andThen_ok, List.map_toArray, List.map_cons, List.map_nil, hv, hx, hr]
    exact hK _ _ (h v' w' h2 h3)

theorem add_block (a : Addr) (j : Nat) : (a.add j).block = a.block := by unfold Addr.add; split <;> rfl
/-- A slice value whose cells, all ahead of block B, hold these bytes. -/
def BytesIn (B : Nat) (w : World) (v : Value) (l : List UInt8) : Prop :=
  (v = .slice none 0 0 ∧ l = []) ∨ ∃ a cap, v = .slice (some a) l.length cap ∧ (l = [] ∨ a.block < B) ∧ ∀ j u, (bv l)[j]? = some u → w.cell? (a.add j) = some u
theorem BytesIn.below {B : Nat} {w w' : World} {v : Value} {l : List UInt8} (h : BytesIn B w v l) (hb : Below B w w') : BytesIn B w' v l := by
  rcases h with h | ⟨a, cap, h1, h2, h3⟩
  · exact Or.inl h
  · refine Or.inr ⟨a, cap, h1, h2, fun j u hj => ?_⟩
    rcases h2 with rfl | h2
    · simp [bv] at hj
    · rw [hb.cell (p := a.add j) (by rw [add_block]; exact h2)]; exact h3 j u hj
theorem bv_one (l : List UInt8) : ∀ u ∈ bv l, u.oneCell' = true := by
  intro u hu
  unfold bv at hu
  obtain ⟨c, _, rfl⟩ := List.mem_map.1 hu
  rfl
theorem bv_len (l : List UInt8) : (bv l).length = l.length := by unfold bv; simp
theorem BytesIn.src {B : Nat} {w : World} {v : Value} {l : List UInt8} (h : BytesIn B w v l) : Src Try.prog 1 23 v l.length (bv l) w := by
  rcases h with ⟨rfl, rfl⟩ | ⟨a, cap, rfl, h2, h3⟩
  · exact Src.ofNil w Try.underlying23 0
  · exact Src.ofSlice w Try.underlying23 a _ cap _ (by rw [bv_len]; omega) h3 (bv_one l)
theorem src_string (w : World) (l : List UInt8) : Src Try.prog 1 9 (.string ⟨l.toArray⟩) l.length (bv l) w :=
  Src.ofString w Try.underlying9 ⟨l.toArray⟩
theorem own_more {w2 : World} {B : Nat} {v : Value} {l r : List UInt8} (h : w2.ownsRow B 5 1 v (l.length + r.length) (bv l ++ bv r)) : Own w2 B v (l ++ r) := by
  unfold Own; rw [bv_append, List.length_append]; exact h
theorem own_bytes {w : World} {B B2 : Nat} {v : Value} {l : List UInt8} (h : Own w B v l) (hB : w.heap.size ≤ B2) : BytesIn B2 w v l := by
  rcases h.2 with ⟨rfl, hn⟩ | ⟨g, cap, cur, rfl, _, hg, _⟩
  · exact Or.inl ⟨rfl, List.length_eq_zero_iff.1 hn⟩
  · refine Or.inr ⟨_, cap, rfl, ?_, World.ownsRow.cells h rfl⟩
    have := (World.ownsRow.lt h g rfl).2
    exact Or.inr (show g < B2 by omega)
end Go.Proofs.Ytgppadnbfggkcaa
