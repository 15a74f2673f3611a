/- The sum, block by block: what was read of a text, and what closes it. -/
import Derived.Test.YteijekhmgedhoaaDoorShaN
namespace Go.Proofs.YteijekhmgedhoaaDoor
open Go.RowKit

theorem getD_block (b : List UInt8) (o j : Nat) (h : j < 64) : ((b.drop o).take 64).getD j 0 = b.getD (o + j) 0 := by
  simp only [List.getD]
  rw [List.getElem?_take, if_pos h, List.getElem?_drop]
theorem wordAt_block (b : List UInt8) (o j : Nat) (h : j + 3 < 64) : wordAt ((b.drop o).take 64) j = wordAt b (o + j) := by
  unfold wordAt
  rw [getD_block _ _ _ (by omega), getD_block _ _ _ (by omega), getD_block _ _ _ (by omega), getD_block _ _ _ h]
  rfl
theorem schedL_block (b : List UInt8) (o i : Nat) : schedL ((b.drop o).take 64) 0 i = schedL b o i := by
  induction i with
  | zero => rfl
  | succ i ih =>
    rw [schedL, schedL]
    simp only [ih]
    by_cases h : i < 16
    · rw [if_pos h, if_pos h, Nat.zero_add, wordAt_block _ _ _ (by omega)]
    · rw [if_neg h, if_neg h]
theorem blockN_block (b : List UInt8) (o : Nat) (v : Eight) : blockN ((b.drop o).take 64) 0 v = blockN b o v := by
  unfold blockN
  rw [schedL_block]
theorem blocksN_succ (b : List UInt8) (n : Nat) : blocksN b (n + 1) = blockN ((b.drop (64 * n)).take 64) 0 (blocksN b n) := by
  rw [blockN_block]; rfl
theorem blocksN_app (t u : List UInt8) (n : Nat) (h : 64 * n ≤ t.length) : blocksN (t ++ u) n = blocksN t n := by
  induction n with
  | zero => rfl
  | succ n ih =>
    rw [blocksN_succ, blocksN_succ, ih (by omega), List.drop_append_of_le_length (by omega), List.take_append_of_le_length (by rw [List.length_drop]; omega)]
theorem startE_lt : ∀ x ∈ startE.list, x < two32 := by decide
theorem blocksN_lt (b : List UInt8) (n : Nat) : ∀ x ∈ (blocksN b n).list, x < two32 := by
  cases n with
  | zero => exact startE_lt
  | succ n => rw [blocksN_succ]; exact blockN_lt _ _ _
theorem oneB_eq {l : List UInt8} {n : Nat} (hl : l.length = 64) (hn : n < 64) : oneB l n = l.take n ++ 128 :: List.replicate (63 - n) 0 := by
  unfold oneB
  rw [List.set_append_right _ _ (by rw [List.length_take]; omega), List.length_take, show n - min n l.length = 0 by omega, show 64 - n = (63 - n) + 1 by omega, List.replicate_succ, List.set_cons_zero]
theorem take64 (L : List UInt8) (h : L.length ≤ 64) : L.take 64 = L := List.take_of_length_le h
/-- What closes the sum of what was read. -/
theorem closed_pad (t blk : List UInt8) (hb : blk.length = 64) (ht : blk.take (t.length % 64) = t.drop (64 * (t.length / 64))) :
    closedN (blocksN t (t.length / 64)) blk (t.length % 64) t.length = blocksN (padL t) ((padL t).length / 64) := by
  have hr : t.length % 64 < 64 := Nat.mod_lt _ (by omega)
  have hp := padL_len t
  have hq : 64 * (t.length / 64) ≤ t.length := by omega
  have hpad : padL t = t ++ ([128] ++ List.replicate (fillN t.length) 0 ++ placesN (8 * t.length)) := by
    unfold padL; rw [Nat.mul_comm t.length 8]; simp
  have hd : (padL t).drop (64 * (t.length / 64)) = blk.take (t.length % 64) ++ ([128] ++ List.replicate (fillN t.length) 0 ++ placesN (8 * t.length)) := by
    rw [hpad, List.drop_append_of_le_length hq, ht]
  have hbq : blocksN (padL t) (t.length / 64) = blocksN t (t.length / 64) := by rw [hpad, blocksN_app _ _ _ hq]
  have hone := oneB_eq hb hr
  have htl : (blk.take (t.length % 64)).length = t.length % 64 := by rw [List.length_take, hb]; omega
  unfold closedN
  by_cases h : t.length % 64 < 56
  · rw [if_pos h]
    have hf : fillN t.length = 55 - t.length % 64 := by unfold fillN; omega
    have hn : (padL t).length / 64 = t.length / 64 + 1 := by omega
    rw [hn, blocksN_succ, hbq, hd, hf, hone]
    congr 1
    rw [take64 _ (by simp only [List.length_append, List.length_cons, List.length_nil, List.length_replicate, placesN_len, htl]; omega)]
    rw [List.take_append, htl, show (blk.take (t.length % 64)).take 56 = blk.take (t.length % 64) from List.take_of_length_le (by rw [htl]; omega)]
    obtain ⟨m, hm⟩ : ∃ m, m = 55 - t.length % 64 := ⟨_, rfl⟩
    rw [show 56 - t.length % 64 = m + 1 by omega, ← hm, List.take_succ_cons, List.take_replicate, show min m (63 - t.length % 64) = m by omega]
    simp
  · rw [if_neg h]
    have hf : fillN t.length = 119 - t.length % 64 := by unfold fillN; omega
    have hn : (padL t).length / 64 = t.length / 64 + 1 + 1 := by omega
    rw [hn, blocksN_succ, blocksN_succ, hbq, hd]
    have hd2 : (padL t).drop (64 * (t.length / 64 + 1)) = List.replicate 56 0 ++ placesN (8 * t.length) := by
      rw [show 64 * (t.length / 64 + 1) = 64 * (t.length / 64) + 64 by omega, ← List.drop_drop, hd, hf]
      rw [List.drop_append, htl, List.drop_of_length_le (by rw [htl]; omega), List.nil_append]
      obtain ⟨m, hm⟩ : ∃ m, m = 63 - t.length % 64 := ⟨_, rfl⟩
      rw [show 64 - t.length % 64 = m + 1 by omega, List.append_assoc, List.singleton_append, List.drop_succ_cons, List.drop_append_of_le_length (by rw [List.length_replicate]; omega), List.drop_replicate, show 119 - t.length % 64 - m = 56 by omega]
    rw [hd2, hf, hone]
    have e1 : (zerosL.take 56 ++ placesN (8 * t.length)) = (List.replicate 56 0 ++ placesN (8 * t.length)).take 64 := by
      rw [take64 _ (by rw [List.length_append, List.length_replicate, placesN_len]; exact Nat.le_refl _)]
      rfl
    have e2 : blk.take (t.length % 64) ++ 128 :: List.replicate (63 - t.length % 64) 0 = (blk.take (t.length % 64) ++ ([128] ++ List.replicate (119 - t.length % 64) 0 ++ placesN (8 * t.length))).take 64 := by
      rw [List.take_append, htl, show (blk.take (t.length % 64)).take 64 = blk.take (t.length % 64) from List.take_of_length_le (by rw [htl]; omega)]
      congr 1
      obtain ⟨m, hm⟩ : ∃ m, m = 63 - t.length % 64 := ⟨_, rfl⟩
      rw [show 64 - t.length % 64 = m + 1 by omega, ← hm, List.append_assoc, List.singleton_append, List.take_succ_cons, List.take_append_of_le_length (by rw [List.length_replicate]; omega), List.take_replicate, show min m (119 - t.length % 64) = m by omega]
    rw [e1, e2]
end Go.Proofs.YteijekhmgedhoaaDoor
