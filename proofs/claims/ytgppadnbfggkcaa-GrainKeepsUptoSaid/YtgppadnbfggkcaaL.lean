/- The reader: what is not read yet, and the walk of take. -/
import Derived.Test.YtgppadnbfggkcaaE
import Derived.Deep.Slices
namespace Go.Proofs.Ytgppadnbfggkcaa
open Go.RowKit

/-- A slice value whose cells, all in blocks of S, hold these bytes. -/
def BytesC (S : Nat → Prop) (w : World) (v : Value) (l : List UInt8) : Prop :=
  (v = .slice none 0 0 ∧ l = []) ∨ ∃ a cap, v = .slice (some a) l.length cap ∧ l.length ≤ cap ∧ cap ≤ maxLen ∧ (l = [] ∨ S a.block) ∧ ∀ j u, (bv l)[j]? = some u → w.cell? (a.add j) = some u
theorem BytesC.kept {S S' : Nat → Prop} {w w' : World} {v : Value} {l : List UInt8} (h : BytesC S w v l) (hk : ∀ k, S k → S' k ∧ w'.heap[k]? = w.heap[k]?) : BytesC S' w' v l := by
  rcases h with h | ⟨a, cap, h1, h2, h3, h4, h5⟩
  · exact Or.inl h
  · refine Or.inr ⟨a, cap, h1, h2, h3, h4.imp_right (fun h => (hk _ h).1), fun j u hj => ?_⟩
    rcases h4 with rfl | h4
    · simp [bv] at hj
    · rw [World.cell?_of_block (w := w) (by rw [add_block]; exact (hk _ h4).2)]; exact h5 j u hj
theorem BytesC.into {S : Nat → Prop} {B : Nat} {w : World} {v : Value} {l : List UInt8} (h : BytesC S w v l) (hS : ∀ k, S k → k < B) : BytesIn B w v l := by
  rcases h with h | ⟨a, cap, h1, _, _, h4, h5⟩
  · exact Or.inl h
  · exact Or.inr ⟨a, cap, h1, h4.imp_right (hS _), h5⟩
theorem bv_drop (l : List UInt8) (n : Nat) : bv (l.drop n) = (bv l).drop n := by unfold bv; rw [List.map_drop]
theorem bv_take (l : List UInt8) (n : Nat) : bv (l.take n) = (bv l).take n := by unfold bv; rw [List.map_take]
theorem kb_refl (w : World) (row : Option Nat) : w.grownBy w row := ⟨rfl, rfl, rfl, Nat.le_refl _, fun _ _ _ => rfl⟩
theorem kb_trans {w w1 w2 : World} {row : Option Nat} (h : w.grownBy w1 row) (k : w1.grownBy w2 row) : w.grownBy w2 row :=
  ⟨k.os.trans h.os, k.tape.trans h.tape, k.output.trans h.output, Nat.le_trans h.size k.size, fun j hj hne => (k.block j (Nat.lt_of_lt_of_le hj h.size) hne).trans (h.block j hj hne)⟩
theorem kb_alloc {w w1 : World} {row : Option Nat} (h : w.grownBy w1 row) (o : Obj) : w.grownBy (w1.alloc o) row := kb_trans h (World.grownBy_alloc w1 o row)
theorem kb_set (w : World) (rb j : Nat) (v : Value) : w.grownBy (w.setCell ⟨rb, j, none⟩ v) (some rb) :=
  ⟨rfl, rfl, rfl, by simp, fun k _ hne => Below.heap_setCell _ _ _ _ (fun e => hne (by rw [e]))⟩
theorem kb_below {w w1 : World} {rb B : Nat} (h : w.grownBy w1 (some rb)) (hB : B ≤ rb) (hB2 : B ≤ w.heap.size) : Below B w w1 :=
  (Below.refl B w).grown h hB2 (fun k hk => by injection hk with hk; omega)
/-- What a reader has not read yet: l; its cell lies in block rb, the bytes in blocks of S. -/
def RestAt (S : Nat → Prop) (rb : Nat) (w : World) (l : List UInt8) : Prop :=
  ∃ v, w.cell? ⟨rb, 0, none⟩ = some v ∧ w.frozen? ⟨rb, 0, none⟩ = false ∧ BytesC S w v l ∧ ¬ S rb ∧ (∀ k, S k → k < w.heap.size) ∧ rb < w.heap.size
set_option maxRecDepth 100000 in
set_option maxHeartbeats 1000000 in
theorem take_some (rb n : Nat) (a : Addr) (cap : Nat) (l : List UInt8) (w : World) (hc : w.cell? ⟨rb, 0, none⟩ = some (.slice (some a) l.length cap)) (hf : w.frozen? ⟨rb, 0, none⟩ = false) (hl : l.length ≤ cap) (hm : cap ≤ maxLen) (hle : n ≤ l.length) :
    Calls Try.prog 40 #[.pointer (some ⟨rb, 0, none⟩), .int .u64 n] w fun e w' => ∃ a', (a' = a.add n ∨ l.length = n) ∧ a'.block = a.block ∧ e = .returned (.slice (some a) n cap) ∧ w' = w.setCell ⟨rb, 0, none⟩ (.slice (some a') (l.length - n) (cap - n)) := by
  have hm2 : cap ≤ 9223372036854775807 := by unfold maxLen at hm; omega
  clear hm
  by_cases hcn : cap = n
  · have hln : l.length = n := by omega
    subst hcn
    go_enter Try.func40, Try.ntmps40
    go_wp2_with fail
    go_ret
    exact ⟨a, Or.inr hln, rfl, rfl, by simp [hln]⟩
  · go_enter Try.func40, Try.ntmps40
    go_wp2_with fail
    go_ret
    exact ⟨_, Or.inl rfl, add_block _ _, rfl, rfl⟩
set_option maxRecDepth 100000 in
set_option maxHeartbeats 1000000 in
theorem take_nil (rb : Nat) (w : World) (hc : w.cell? ⟨rb, 0, none⟩ = some (.slice none 0 0)) (hf : w.frozen? ⟨rb, 0, none⟩ = false) :
    Calls Try.prog 40 #[.pointer (some ⟨rb, 0, none⟩), .int .u64 0] w fun e w' => e = .returned (.slice none 0 0) ∧ w' = w.setCell ⟨rb, 0, none⟩ (.slice none 0 0) := by
  go_enter Try.func40, Try.ntmps40
  go_wp2_with fail
  go_ret
  exact ⟨rfl, rfl⟩
set_option maxRecDepth 100000 in
set_option maxHeartbeats 1000000 in
theorem take_short (rb n : Nat) (sa : Option Addr) (len cap : Nat) (w : World) (hn : n < 18446744073709551616) (hlen : len ≤ 9223372036854775807) (hc : w.cell? ⟨rb, 0, none⟩ = some (.slice sa len cap)) (hle : len < n) :
    Calls Try.prog 40 #[.pointer (some ⟨rb, 0, none⟩), .int .u64 n] w fun e w' => e = .panicked [{ v := .iface 29 (.int .i64 20), recovered := false }] ∧ w' = w := by
  have HN := Lib.hid hn
  clear hn
  go_enter Try.func40, Try.ntmps40
  go_wp2_with fail
  exact ⟨rfl, rfl, rfl⟩
theorem take_any (S : Nat → Prop) (rb n : Nat) (l : List UInt8) (w : World) (hn : n < 18446744073709551616) (hR : RestAt S rb w l) :
    Calls Try.prog 40 #[.pointer (some ⟨rb, 0, none⟩), .int .u64 n] w fun e w' =>
      if n ≤ l.length then ∃ out, e = .returned out ∧ BytesC S w' out (l.take n) ∧ RestAt S rb w' (l.drop n) ∧ w.grownBy w' (some rb)
      else e = .panicked [{ v := .iface 29 (.int .i64 20), recovered := false }] ∧ w' = w := by
  obtain ⟨v, hc, hf, hb, hS, hSl, hrb⟩ := hR
  rcases hb with ⟨rfl, rfl⟩ | ⟨a, cap, rfl, hl, hm, hSa, hcells⟩
  · by_cases h0 : n = 0
    · subst h0
      refine (take_nil rb w hc hf).mono ?_
      rintro e w' ⟨rfl, rfl⟩
      rw [if_pos (by simp)]
      refine ⟨_, rfl, Or.inl ⟨rfl, rfl⟩, ⟨_, World.cell?_setCell_same _ _ _ hc, by simpa [go_sem] using hf, Or.inl ⟨rfl, rfl⟩, hS, by simpa using hSl, by simpa using hrb⟩, kb_set _ _ _ _⟩
    · refine (take_short rb n none 0 0 w hn (by omega) hc (by omega)).mono ?_
      rintro e w' ⟨rfl, rfl⟩
      rw [if_neg (by simp; omega)]
      exact ⟨rfl, rfl⟩
  · by_cases hle : n ≤ l.length
    · refine (take_some rb n a cap l w hc hf hl hm hle).mono ?_
      rintro e w' ⟨a', ha, hab, rfl, rfl⟩
      rw [if_pos hle]
      have hkeep : l ≠ [] → ∀ j, (w.setCell ⟨rb, 0, none⟩ (.slice (some a') (l.length - n) (cap - n))).cell? (a.add j) = w.cell? (a.add j) := fun hl0 j =>
        World.cell?_setCell_other _ _ _ _ (by
          intro e
          rcases hSa with h0 | hSa
          · exact hl0 h0
          · exact hS (by rw [show rb = a.block by rw [← add_block a j, ← e]]; exact hSa))
      refine ⟨_, rfl, Or.inr ⟨a, cap, ?_, ?_, hm, hSa.imp_left (fun h => by rw [h]; simp), fun j u hj => ?_⟩, ⟨_, World.cell?_setCell_same _ _ _ hc, by simpa [go_sem] using hf, Or.inr ⟨a', cap - n, ?_, ?_, by omega, by rw [hab]; exact hSa.imp_left (fun h => by rw [h]; simp), fun j u hj => ?_⟩, hS, by simpa using hSl, by simpa using hrb⟩, kb_set _ _ _ _⟩
      · rw [List.length_take, Nat.min_eq_left hle]
      · rw [List.length_take]; omega
      · rw [hkeep (by rintro rfl; simp [bv] at hj)]
        rw [bv_take, List.getElem?_take] at hj
        split at hj
        · exact hcells j u hj
        · cases hj
      · rw [List.length_drop]
      · rw [List.length_drop]; omega
      · rw [bv_drop, List.getElem?_drop] at hj
        rcases ha with rfl | ha
        · rw [Go.Deep.add_add, hkeep (by rintro rfl; simp [bv] at hj)]; exact hcells _ u hj
        · rw [List.getElem?_eq_none (by rw [bv_len]; omega)] at hj; cases hj
    · refine (take_short rb n (some a) l.length cap w hn (by unfold maxLen at hm; omega) hc (by omega)).mono ?_
      rintro e w' ⟨rfl, rfl⟩
      rw [if_neg hle]
      exact ⟨rfl, rfl⟩
end Go.Proofs.Ytgppadnbfggkcaa
