/- The walks of object's readers: text, number, stamp, list, name. The walks of object's numbered, readName. The walk of object's fields. -/
import Derived.Test.YtdolonkeanlaoaaDoorObCD
import Derived.Test.YtdolonkeanlaoaaDoorObAB
import Derived.Test.YtdolonkeanlaoaaDoorJnA
import Derived.IntWalk
namespace Go.Proofs.YtdolonkeanlaoaaDoor
open Go.RowKit

/-- What a reader leaves: an answer, or it gave up by a code. -/
def GivesR {α : Type} (V : World → Value → α → Prop) (w : World) (r : Except Int α) (e : Ending) (w' : World) : Prop :=
  match r with
  | .ok x => ∃ v, e = .returned v ∧ V w' v x ∧ Below w.heap.size w w'
  | .error c => e = .panicked [{ v := .iface 24 (.int .i64 c), recovered := false }] ∧ Below w.heap.size w w'
theorem five_new (w : World) (c0 c1 c2 c3 c4 : Value) (t : TypeId) : ((w.alloc (.cells #[c0, c1, c2, c3, c4] t)).cell? ⟨w.heap.size, 0, none⟩ = some c0 ∧ (w.alloc (.cells #[c0, c1, c2, c3, c4] t)).cell? ⟨w.heap.size, 1, none⟩ = some c1 ∧
    (w.alloc (.cells #[c0, c1, c2, c3, c4] t)).cell? ⟨w.heap.size, 2, none⟩ = some c2 ∧ (w.alloc (.cells #[c0, c1, c2, c3, c4] t)).cell? ⟨w.heap.size, 3, none⟩ = some c3 ∧ (w.alloc (.cells #[c0, c1, c2, c3, c4] t)).cell? ⟨w.heap.size, 4, none⟩ = some c4) :=
  (five_cells (new_five w _ t)).1
/-- A value's parts in memory. -/
theorem ReadsS.parts {S : Nat → Prop} {w : World} {n : Nat} {v : Value} {x : Val} (h : ReadsS S w (n + 1) v x) : ∃ a1 c1 a2 c2, v = .agg #[.int .i64 x.kind, .int .u64 x.num, .slice a1 x.bytes.length c1, .float .f64 x.real, .slice a2 x.list.length c2] ∧
    x.num < 18446744073709551616 ∧ x.real < 18446744073709551616 ∧ x.bytes.length ≤ 1048576 ∧ x.list.length ≤ 1048576 ∧ BytesC S w (.slice a1 x.bytes.length c1) x.bytes ∧ ListS S w (ReadsS S w n) (.slice a2 x.list.length c2) x.list := by
  obtain ⟨k, u, b, f, l⟩ := x
  obtain ⟨vb, vl, rfl, h2, h3, h4, h5, h6, h7⟩ := h
  obtain ⟨a1, c1, rfl⟩ := h6.shape
  obtain ⟨a2, c2, rfl⟩ := h7.shape
  exact ⟨a1, c1, a2, c2, rfl, h2, h3, h4, h5, h6, h7⟩
set_option maxRecDepth 100000 in
set_option maxHeartbeats 1000000 in
theorem rtext_at (S : Nat → Prop) (n most : Nat) (x : Val) (a1 a2 : Option Addr) (c1 c2 : Nat) (w : World) (hS : ∀ k, S k → k < w.heap.size) (hx : ReadsS S w (n + 1) (.agg #[.int .i64 x.kind, .int .u64 x.num, .slice a1 x.bytes.length c1, .float .f64 x.real, .slice a2 x.list.length c2]) x) :
    Calls Tryd.prog 47 #[.agg #[.int .i64 x.kind, .int .u64 x.num, .slice a1 x.bytes.length c1, .float .f64 x.real, .slice a2 x.list.length c2], .int .i64 most] w (GivesR (fun w' v b => v = .slice a1 x.bytes.length c1 ∧ BytesC S w' v b) w (textR most x)) := by
  obtain ⟨b1, d1, b2, d2, he, h2, h3, h4, h5, h6, h7⟩ := hx.parts
  injection he with he
  have hsh2 : [Value.int .i64 x.kind, .int .u64 x.num, .slice a1 x.bytes.length c1, .float .f64 x.real, .slice a2 x.list.length c2] = [.int .i64 x.kind, .int .u64 x.num, .slice b1 x.bytes.length d1, .float .f64 x.real, .slice b2 x.list.length d2] := by injection he
  injection hsh2 with s0 hsh2
  injection hsh2 with s1 hsh2
  injection hsh2 with s2 hsh2
  injection hsh2 with s3 hsh2
  injection hsh2 with s4 hsh2
  rw [← s2] at h6
  have HB := Lib.hid (h6.alloc hS (.cells #[.int .i64 x.kind, .int .u64 x.num, .slice a1 x.bytes.length c1, .float .f64 x.real, .slice a2 x.list.length c2] 53))
  clear h6 h7 hx hS he s0 s1 s2 s3 s4 hsh2
  by_cases hk : x.kind = 1
  · by_cases hl : most < x.bytes.length
    · have e : textR most x = .error 2 := by unfold textR; rw [if_neg (by omega), if_pos hl]
      rw [e, hk]
      clear e hk
      go_enter Tryd.func47, Tryd.ntmps47
      go_wp2
      exact ⟨rfl, rfl, (Below.refl _ w).alloc (Nat.le_refl _) _⟩
    · have e : textR most x = .ok x.bytes := by unfold textR; rw [if_neg (by omega), if_neg hl]
      rw [e]
      rw [hk] at HB ⊢
      clear e hk
      go_enter Tryd.func47, Tryd.ntmps47
      go_wp2
      go_ret
      exact ⟨_, rfl, ⟨rfl, HB.out⟩, (Below.refl _ w).alloc (Nat.le_refl _) _⟩
  · have e : textR most x = .error 91 := by unfold textR; rw [if_pos hk]
    rw [e]
    have g : (x.kind == 1) = false := by rw [beq_eq_false_iff_ne]; exact hk
    clear e hk
    go_enter Tryd.func47, Tryd.ntmps47
    go_wp2
    exact ⟨rfl, rfl, (Below.refl _ w).alloc (Nat.le_refl _) _⟩
theorem rtext_any (S : Nat → Prop) (n most : Nat) (v : Value) (x : Val) (w : World) (hS : ∀ k, S k → k < w.heap.size) (hx : ReadsS S w (n + 1) v x) :
    Calls Tryd.prog 47 #[v, .int .i64 most] w (GivesR (BytesC S) w (textR most x)) := by
  obtain ⟨a1, c1, a2, c2, rfl, _⟩ := hx.parts
  refine (rtext_at S n most x a1 a2 c1 c2 w hS hx).mono fun e w' h => ?_
  cases hr : textR most x with
  | error c => rw [hr] at h; exact h
  | ok b => rw [hr] at h; obtain ⟨u, h1, ⟨_, h2⟩, h3⟩ := h; exact ⟨u, h1, h2, h3⟩
set_option maxRecDepth 100000 in
set_option maxHeartbeats 1000000 in
theorem rnumber_any (S : Nat → Prop) (n most : Nat) (v : Value) (x : Val) (w : World) (hm : most ≤ 1048576) (hx : ReadsS S w (n + 1) v x) :
    Calls Tryd.prog 68 #[v, .int .u64 most] w (GivesR (fun _ v (n : Nat) => v = .int .i64 n) w (numberR most x)) := by
  obtain ⟨a1, c1, a2, c2, rfl, h2, h3, h4, h5, h6, h7⟩ := hx.parts
  clear h6 h7 hx h3 h4 h5
  by_cases hk : x.kind = 0
  · by_cases hl : most < x.num
    · have e : numberR most x = .error 2 := by unfold numberR; rw [if_neg (by omega), if_pos hl]
      rw [e, hk]
      clear e hk
      go_enter Tryd.func68, Tryd.ntmps68
      go_wp2
      exact ⟨rfl, rfl, (Below.refl _ w).alloc (Nat.le_refl _) _⟩
    · have e : numberR most x = .ok x.num := by unfold numberR; rw [if_neg (by omega), if_neg hl]
      rw [e]
      rw [hk]
      clear e hk
      go_enter Tryd.func68, Tryd.ntmps68
      go_wp2
      go_ret
      exact ⟨_, rfl, rfl, (Below.refl _ w).alloc (Nat.le_refl _) _⟩
  · have e : numberR most x = .error 91 := by unfold numberR; rw [if_pos hk]
    rw [e]
    have g : (x.kind == 0) = false := by rw [beq_eq_false_iff_ne]; exact hk
    clear e hk
    go_enter Tryd.func68, Tryd.ntmps68
    go_wp2
    exact ⟨rfl, rfl, (Below.refl _ w).alloc (Nat.le_refl _) _⟩
set_option maxRecDepth 100000 in
set_option maxHeartbeats 1000000 in
theorem rstamp_any (S : Nat → Prop) (n : Nat) (v : Value) (x : Val) (w : World) (hx : ReadsS S w (n + 1) v x) :
    Calls Tryd.prog 59 #[v] w (GivesR (fun _ v (n : Nat) => v = .float .f64 n ∧ n < 18446744073709551616) w (stampR x)) := by
  obtain ⟨a1, c1, a2, c2, rfl, h2, h3, h4, h5, h6, h7⟩ := hx.parts
  have H3 := Lib.hid h3
  clear h6 h7 hx h2 h3 h4 h5
  by_cases hk : x.kind = 2
  · have e : stampR x = .ok x.real := by unfold stampR; rw [if_neg (by omega)]
    rw [e]
    rw [hk]
    clear e hk
    go_enter Tryd.func59, Tryd.ntmps59
    go_wp2
    go_ret
    exact ⟨_, rfl, ⟨rfl, H3.out⟩, (Below.refl _ w).alloc (Nat.le_refl _) _⟩
  · have e : stampR x = .error 91 := by unfold stampR; rw [if_pos hk]
    rw [e]
    have g : (x.kind == 2) = false := by rw [beq_eq_false_iff_ne]; exact hk
    clear e hk
    go_enter Tryd.func59, Tryd.ntmps59
    go_wp2
    exact ⟨rfl, rfl, (Below.refl _ w).alloc (Nat.le_refl _) _⟩
set_option maxRecDepth 100000 in
set_option maxHeartbeats 1000000 in
theorem rlist_any (S : Nat → Prop) (n most : Nat) (v : Value) (x : Val) (w : World) (hS : ∀ k, S k → k < w.heap.size) (hx : ReadsS S w (n + 1) v x) :
    Calls Tryd.prog 69 #[v, .int .i64 most] w (GivesR (fun w' v l => ListS S w' (ReadsS S w' n) v l) w (listR most x)) := by
  obtain ⟨a1, c1, a2, c2, rfl, h2, h3, h4, h5, h6, h7⟩ := hx.parts
  have HB := Lib.hid (h7.kept h5 (S' := S) (w' := w.alloc (.cells #[.int .i64 x.kind, .int .u64 x.num, .slice a1 x.bytes.length c1, .float .f64 x.real, .slice a2 x.list.length c2] 53)) (fun k hk => ⟨hk, Below.heap_alloc _ _ _ (hS k hk)⟩))
  clear h6 h7 hx hS
  by_cases hk : x.kind = 3
  · by_cases hl : most < x.list.length
    · have e : listR most x = .error 2 := by unfold listR; rw [if_neg (by omega), if_pos hl]
      rw [e, hk]
      clear e hk
      go_enter Tryd.func69, Tryd.ntmps69
      go_wp2
      exact ⟨rfl, rfl, (Below.refl _ w).alloc (Nat.le_refl _) _⟩
    · have e : listR most x = .ok x.list := by unfold listR; rw [if_neg (by omega), if_neg hl]
      rw [e]
      rw [hk] at HB ⊢
      clear e hk
      go_enter Tryd.func69, Tryd.ntmps69
      go_wp2
      go_ret
      exact ⟨_, rfl, HB.out, (Below.refl _ w).alloc (Nat.le_refl _) _⟩
  · have e : listR most x = .error 91 := by unfold listR; rw [if_pos hk]
    rw [e]
    have g : (x.kind == 3) = false := by rw [beq_eq_false_iff_ne]; exact hk
    clear e hk
    go_enter Tryd.func69, Tryd.ntmps69
    go_wp2
    exact ⟨rfl, rfl, (Below.refl _ w).alloc (Nat.le_refl _) _⟩
/-- An element of a list of values in memory. -/
theorem ListS.el {S : Nat → Prop} {w : World} {n : Nat} {a : Option Addr} {c : Nat} {l : List Val} {j : Nat} {x : Val} (h : ListS S w (ReadsS S w (n + 1)) (.slice a l.length c) l) (hj : l[j]? = some x) :
    ∃ g o a1 c1 a2 c2, a = some ⟨g, o, none⟩ ∧ S g ∧ l.length ≤ c ∧ c ≤ maxLen ∧ (w.cell? ⟨g, o + j * 5, none⟩ = some (.int .i64 x.kind) ∧ w.cell? ⟨g, o + j * 5 + 1, none⟩ = some (.int .u64 x.num) ∧ w.cell? ⟨g, o + j * 5 + 2, none⟩ = some (.slice a1 x.bytes.length c1) ∧
      w.cell? ⟨g, o + j * 5 + 3, none⟩ = some (.float .f64 x.real) ∧ w.cell? ⟨g, o + j * 5 + 4, none⟩ = some (.slice a2 x.list.length c2)) ∧
      ReadsS S w (n + 1) (.agg #[.int .i64 x.kind, .int .u64 x.num, .slice a1 x.bytes.length c1, .float .f64 x.real, .slice a2 x.list.length c2]) x := by
  rcases h with ⟨_, rfl⟩ | ⟨g, o, cap, hv, hlc, hcm, hSg, hc⟩
  · simp at hj
  · injection hv with hv1 _ hv2
    subst hv1 hv2
    obtain ⟨c0, c1, c2, c3, c4, e0, e1, e2, e3, e4, hR⟩ := hc j x hj
    obtain ⟨a1, p1, a2, p2, hag, _⟩ := hR.parts
    have hsh2 : [c0, c1, c2, c3, c4] = [.int .i64 x.kind, .int .u64 x.num, .slice a1 x.bytes.length p1, .float .f64 x.real, .slice a2 x.list.length p2] := by
      injection hag with hag; injection hag
    injection hsh2 with s0 hsh2
    injection hsh2 with s1 hsh2
    injection hsh2 with s2 hsh2
    injection hsh2 with s3 hsh2
    injection hsh2 with s4 hsh2
    subst s0 s1 s2 s3 s4
    exact ⟨g, o, a1, p1, a2, p2, rfl, hSg, hlc, hcm, ⟨e0, e1, e2, e3, e4⟩, hR⟩
end Go.Proofs.YtdolonkeanlaoaaDoor
namespace Go.Proofs.YtdolonkeanlaoaaDoor
open Go.RowKit

def numB (x : Val) : Bool := decide (x.kind = 3) && (decide (0 < x.list.length) && decide ((at0 x.list 0).kind = 0))
set_option maxRecDepth 100000 in
set_option maxHeartbeats 1000000 in
theorem numbered_any (S : Nat → Prop) (n : Nat) (v : Value) (x : Val) (w : World) (hS : ∀ k, S k → k < w.heap.size) (hx : ReadsS S w (n + 2) v x) :
    Calls Tryd.prog 40 #[v] w fun e w' => e = .returned (.bool (numB x)) ∧ Below w.heap.size w w' := by
  obtain ⟨a1, c1, a2, c2, rfl, h2, h3, h4, h5, h6, h7⟩ := hx.parts
  have HR := Lib.hid ((Below.refl w.heap.size w).alloc (Nat.le_refl _) (.cells #[.int .i64 x.kind, .int .u64 x.num, .slice a1 x.bytes.length c1, .float .f64 x.real, .slice a2 x.list.length c2] 53))
  have HB := Lib.hid h7
  clear h6 h7 hx
  by_cases hk : x.kind = 3
  · by_cases hl : 0 < x.list.length
    · obtain ⟨y, hy⟩ : ∃ y, x.list[0]? = some y := ⟨_, List.getElem?_eq_getElem hl⟩
      obtain ⟨g, o, b1, d1, b2, d2, rfl, hg, hlc, hcm, ⟨e0, _⟩, _⟩ := HB.out.el hy
      have hy0 : at0 x.list 0 = y := by unfold at0; rw [List.getD_eq_getElem?_getD, hy]; rfl
      have HN : Hid (numB x = (y.kind == 0)) := Lib.hid (by
        unfold numB
        rw [hy0, decide_eq_true hk, decide_eq_true hl]
        simp only [Bool.true_and]
        rfl)
      generalize numB x = q at *
      rw [hk] at HR ⊢
      simp only [Nat.zero_mul, Nat.add_zero] at e0
      have e1 : (w.alloc (.cells #[.int .i64 3, .int .u64 x.num, .slice a1 x.bytes.length c1, .float .f64 x.real, .slice (some ⟨g, o, none⟩) x.list.length c2] 53)).cell? ⟨g, o, none⟩ = some (.int .i64 y.kind) := (World.cell?_of_block (w := w) (Below.heap_alloc _ _ _ (hS g hg))).trans e0
      clear hk hy hy0 e0 hcm hlc h2 h3 h4
      go_enter Tryd.func40, Tryd.ntmps40
      go_wp2
      go_ret
      exact ⟨by rw [HN.out]; rfl, HR.out⟩
    · have HN : Hid (numB x = false) := Lib.hid (by
        unfold numB
        rw [decide_eq_false hl]
        simp)
      generalize numB x = q at *
      obtain ⟨m, hm⟩ : ∃ m, x.list.length = m := ⟨_, rfl⟩
      have hm0 : m = 0 := by omega
      rw [hm, hm0, hk] at HR ⊢
      clear hk hm hm0 hl h2 h3 h4
      go_enter Tryd.func40, Tryd.ntmps40
      go_wp2
      go_ret
      exact ⟨by rw [HN.out]; rfl, HR.out⟩
  · have HN : Hid (numB x = false) := Lib.hid (by
      unfold numB
      rw [decide_eq_false hk]
      rfl)
    have g : (x.kind == 3) = false := by rw [beq_eq_false_iff_ne]; exact hk
    generalize numB x = q at *
    clear hk
    go_enter Tryd.func40, Tryd.ntmps40
    go_wp2
    go_ret
    exact ⟨by rw [HN.out]; rfl, HR.out⟩
theorem results_one {fn : Func} {p : Tmp} {ty : TypeId} (h : fn.results = #[.cell p ty]) (tmps : Array Value) (w : World) {a : Addr} {v : Value} (hp : tmps.getD p undef = .pointer (some a)) (hl : (loadVar ty a).run Tryd.prog w = .ok v w) :
    (results fn tmps).run Tryd.prog w = .ok v w := by
  have hp' : tmps[p]?.getD undef = .pointer (some a) := by simpa using hp
  simp only [results, h]
  simp [hp', asAddr, hl]
theorem results_two {fn : Func} {p q : Tmp} {ty tz : TypeId} (h : fn.results = #[.cell p ty, .cell q tz]) (tmps : Array Value) (w : World) {a b : Addr} {v u : Value} (hp : tmps.getD p undef = .pointer (some a)) (hq : tmps.getD q undef = .pointer (some b)) (hl : (loadVar ty a).run Tryd.prog w = .ok v w) (hm : (loadVar tz b).run Tryd.prog w = .ok u w) :
    (results fn tmps).run Tryd.prog w = .ok (.tuple #[v, u]) w := by
  have hp' : tmps[p]?.getD undef = .pointer (some a) := by simpa using hp
  have hq' : tmps[q]?.getD undef = .pointer (some b) := by simpa using hq
  simp only [results, h]
  simp [Sem.run_bind, hp', hq', asAddr, hl, hm]
theorem run_array (w : World) (a : Option Addr) (c : Nat) : (Instr.arrayAt 33 (.slice a 32 c)).run Tryd.prog w = .ok (.pointer a) w := by
  simp [Instr.arrayAt, run_underlying Tryd.under33']
/-- Bytes that are an id, loaded at once. -/
theorem BytesC.id {S : Nat → Prop} {w : World} {a : Option Addr} {n c : Nat} {l : List UInt8} (h : BytesC S w (.slice a n c) l) (hl : l.length = 32) : ∃ b, a = some b ∧ n = 32 ∧ S b.block ∧ (loadCellsFrom b 0 n32 #[]).run Tryd.prog w = .ok (bv l).toArray w := by
  rcases h with ⟨_, rfl⟩ | ⟨b, cap, hv, hlc, hcm, hS, hc⟩
  · simp at hl
  · injection hv with h1 h2 h3
    subst h1 h3
    refine ⟨b, rfl, by omega, ?_, ?_⟩
    · rcases hS with rfl | hS
      · simp at hl
      · exact hS
    have := run_loadCells_list (P := Tryd.prog) w b (bv l) hc
    have e : (bv l).length = n32 := by rw [bv_len, hl]; rfl
    rw [e] at this
    simpa [loadCells] using this
theorem id_load {w : World} {b : Nat} {l : List UInt8} (h : IDAt w b l) : (loadVar 33 ⟨b, 0, none⟩).run Tryd.prog w = .ok (.agg (bv l).toArray) w :=
  run_loadVar_row (P := Tryd.prog) w b 33 33 (bv l).toArray (0, 0) _ h.blk Tryd.under33' rfl (by rw [bv_size h.len]; exact Tryd.size33)
attribute [local simp high] id_size id_zero
set_option maxRecDepth 100000 in
set_option maxHeartbeats 1000000 in
theorem rname_id_any (S : Nat → Prop) (n : Nat) (v : Value) (x : Val) (w : World) (hS : ∀ k, S k → k < w.heap.size) (hx : ReadsS S w (n + 1) v x) :
    Calls Tryd.prog 57 #[v] w (GivesR (fun _ v X => v = .agg (bv X).toArray ∧ X.length = 32) w (nameR x)) := by
  obtain ⟨a1, c1, a2, c2, rfl, h2, h3, h4, h5, h6, h7⟩ := hx.parts
  have hca := run_array
  have HB := Lib.hid h6
  have HR := Lib.hid (((Below.refl w.heap.size w).alloc (Nat.le_refl _) (.cells #[.int .i64 x.kind, .int .u64 x.num, .slice a1 x.bytes.length c1, .float .f64 x.real, .slice a2 x.list.length c2] 53)).alloc (by simp) (.cells (bv zeros).toArray 33))
  have f1 := five_new w (.int .i64 x.kind) (.int .u64 x.num) (.slice a1 x.bytes.length c1) (.float .f64 x.real) (.slice a2 x.list.length c2) 53
  have HI := Lib.hid (IDAt.new (w.alloc (.cells #[.int .i64 x.kind, .int .u64 x.num, .slice a1 x.bytes.length c1, .float .f64 x.real, .slice a2 x.list.length c2] 53)))
  clear h6 h7 hx f1
  by_cases hk : x.kind = 1
  · by_cases hl : x.bytes.length = 32
    · have e : nameR x = .ok x.bytes := by unfold nameR; rw [if_neg (by omega)]
      rw [e, hk]
      rw [hk] at HR HI
      have hb := HB.out
      generalize x.bytes = X at *
      rw [hl] at hb HR HI ⊢
      have hb2 := hb.kept (S' := S) (w' := (w.alloc (.cells #[.int .i64 1, .int .u64 x.num, .slice a1 32 c1, .float .f64 x.real, .slice a2 x.list.length c2] 53)).alloc (.cells (bv zeros).toArray 33)) (fun k hk => ⟨hk, (Below.heap_alloc _ _ _ (by have := hS k hk; simp; omega)).trans (Below.heap_alloc _ _ _ (hS k hk))⟩)
      obtain ⟨b, rfl, _, hSb, hcl⟩ := hb2.id hl
      have hi := HI.out
      simp only [World.size_alloc] at hi
      have hst := hi.write hl
      have HP := Lib.hid (hi.put hl)
      have zx : (bv X).length = n32 := by rw [bv_len, hl]; rfl
      have HX := Lib.hid hl
      have HR2 := Lib.hid (below_setRow (B := w.heap.size) HR.out (g := w.heap.size + 1) (by omega) (bv X).toArray)
      have hz := zeros_len
      clear hb hb2 hi hk e hl h4 HB HR HI
      go_enter Tryd.func57, Tryd.ntmps57
      go_wp2
      exact bodyPost_ret (results_one Tryd.results57 _ _ rfl (id_load HP.out)) rfl ⟨_, rfl, ⟨rfl, HX.out⟩, HR2.out⟩
    · have e : nameR x = .error 91 := by unfold nameR; rw [if_pos (by omega)]
      rw [e, hk]
      rw [hk] at HR
      obtain ⟨m, hm⟩ : ∃ m, x.bytes.length = m := ⟨_, rfl⟩
      rw [hm] at HR ⊢
      have g : ((m : Int) == 32) = false := by rw [beq_eq_false_iff_ne]; omega
      clear e hk hl hm h4 h5
      go_enter Tryd.func57, Tryd.ntmps57
      go_wp2
      exact ⟨rfl, rfl, HR.out⟩
  · have e : nameR x = .error 91 := by unfold nameR; rw [if_pos (by omega)]
    rw [e]
    have g : (x.kind == 1) = false := by rw [beq_eq_false_iff_ne]; exact hk
    clear e hk
    go_enter Tryd.func57, Tryd.ntmps57
    go_wp2
    exact ⟨rfl, rfl, HR.out⟩
end Go.Proofs.YtdolonkeanlaoaaDoor
namespace Go.Proofs.YtdolonkeanlaoaaDoor
open Go.RowKit

/-- The blocks that a call has made. -/
abbrev NewS (w w' : World) : Nat → Prop := fun k => w.heap.size ≤ k ∧ k < w'.heap.size
theorem new_mono {w w1 w2 : World} (h : Below w1.heap.size w1 w2) (k : Nat) (hk : NewS w w1 k) : NewS w w2 k ∧ w2.heap[k]? = w1.heap[k]? := ⟨⟨hk.1, Nat.lt_of_lt_of_le hk.2 h.size⟩, h.block k hk.2⟩
def ListV (w w' : World) (n : Nat) (v : Value) (l : List Val) : Prop := ListS (NewS w w') w' (ReadsS (NewS w w') w' n) v l
theorem at0_get {l : List Val} {k : Nat} {y : Val} (h : l[k]? = some y) : at0 l k = y := by unfold at0; rw [List.getD_eq_getElem?_getD, h]; rfl
theorem listD_err {g : List UInt8 → Except Int (Val × List UInt8)} (h : ∀ {l c}, g l = .error c → c ≠ 0) : ∀ (m : Nat) (l : List UInt8) {c : Int}, listD g m l = .error c → c ≠ 0
  | 0, _, _, e => by simp only [listD] at e; cases e
  | m + 1, l, c, e => by
    simp only [listD] at e
    cases hg : g l with
    | error d => rw [hg] at e; injection e with e; subst e; exact h hg
    | ok p =>
      obtain ⟨x, r⟩ := p
      rw [hg] at e
      simp only at e
      cases hr : listD g m r with
      | error d => rw [hr] at e; injection e with e; subst e; exact listD_err h m r hr
      | ok q => obtain ⟨xs, r'⟩ := q; rw [hr] at e; cases e
theorem valD_err : ∀ {n : Nat} {l : List UInt8} {c : Int}, valD n l = .error c → c ≠ 0
  | 0, _, _, e => by simp only [valD] at e; injection e with e; omega
  | n + 1, l, c, e => by
    simp only [valD] at e
    cases hh : headD l with
    | error d => rw [hh] at e; injection e with e; subst e; exact headD_err hh
    | ok p =>
      obtain ⟨k, m, r⟩ := p
      rw [hh] at e
      simp only at e
      split at e
      · cases e
      split at e
      · split at e
        · injection e with e; omega
        · cases e
      split at e
      · cases hf : floatD m r with
        | ok q => obtain ⟨f, r'⟩ := q; rw [hf] at e; cases e
        | error d =>
          rw [hf] at e
          injection e with e
          unfold floatD at hf
          split at hf
          · injection hf with hf; omega
          split at hf
          · injection hf with hf; omega
          · cases hf
      · cases hl : listD (valD n) m r with
        | ok q => obtain ⟨xs, r'⟩ := q; rw [hl] at e; cases e
        | error d => rw [hl] at e; injection e with e; subst e; exact listD_err valD_err m r hl
theorem decR_err {l : List UInt8} {c : Int} (h : decR l = .error c) : c ≠ 0 := by
  unfold decR at h
  split at h
  · injection h with h; omega
  cases hv : valD 16 l with
  | error d => rw [hv] at h; injection h with h; subst h; exact valD_err hv
  | ok p =>
    obtain ⟨x, r⟩ := p
    rw [hv] at h
    cases r with
    | nil => cases h
    | cons a b => injection h with h; omega
theorem ListS.tail {S : Nat → Prop} {w : World} {n g o m c : Nat} {l : List Val} (h : ListS S w (ReadsS S w n) (.slice (some ⟨g, o, none⟩) m c) l) (hm : l.length = m) : ListS S w (ReadsS S w n) (.slice (some ⟨g, o + 5, none⟩) (m - 1) (c - 1)) (l.drop 1) := by
  rcases h with ⟨h, _⟩ | ⟨g', o', cap, hv, hlc, hcm, hSg, hc⟩
  · cases h
  · injection hv with hv1 hv3 hv2
    injection hv1 with hv1
    injection hv1 with hv1 hv4
    subst hv1 hv4 hv2
    refine Or.inr ⟨g, o + 5, c - 1, by rw [List.length_drop, hm], by rw [List.length_drop]; omega, by omega, hSg, fun j x hj => ?_⟩
    rw [List.getElem?_drop] at hj
    have := hc (1 + j) x hj
    rwa [show o + (1 + j) * 5 = o + 5 + j * 5 by omega] at this
set_option maxRecDepth 100000 in
set_option maxHeartbeats 2000000 in
theorem fields_any (S : Nat → Prop) (v : Value) (l : List UInt8) (kind count : Nat) (w : World) (hS : ∀ k, S k → k < w.heap.size) (hb : BytesC S w v l) (hc1 : 1 ≤ count) (hc5 : count ≤ 5) :
    Calls Tryd.prog 46 #[v, .int .u64 kind, .int .i64 count] w (GivesR (fun w' v vs => ListV w w' 15 v vs) w (fieldsR l kind count)) := by
  have hst := run_storeF
  have HD := Lib.hid (decode_any S v l w hS hb)
  unfold fieldsR
  obtain ⟨sa, sc, rfl⟩ := hb.shape
  clear hb hS
  cases hd : decR l with
  | error c =>
    rw [hd] at HD
    rw [andR_bad rfl]
    have hc0 : c ≠ 0 := decR_err hd
    have g : (c == 0) = false := by rw [beq_eq_false_iff_ne]; exact hc0
    clear hd hc0
    go_enter Tryd.func46, Tryd.ntmps46
    go_wp2_with fail
    refine HD.out.mono ?_
    rintro e w1 ⟨rfl, hb1⟩
    have HB := Lib.hid hb1
    clear hb1
    go_wp2
    exact ⟨rfl, rfl, HB.out.alloc HB.out.size _⟩
  | ok x =>
    rw [hd] at HD
    rw [andR_of rfl]
    clear hd
    go_enter Tryd.func46, Tryd.ntmps46
    go_wp2_with fail
    refine HD.out.mono ?_
    rintro e w1 ⟨vx, rfl, hx, hb1⟩
    have HX := Lib.hid hx
    obtain ⟨a1, c1, a2, c2, rfl, h2, h3, h4, h5, h6, h7⟩ := hx.parts
    have HB := Lib.hid hb1
    have HL := Lib.hid h7
    have HS := Lib.hid hb1.size
    clear hx hb1 h6 h7
    generalize hm : x.list.length = m at *
    have HHL := Lib.hid hm
    clear hm
    have HN := Lib.hid (numbered_any (NewS w w1) 14 (.agg #[.int .i64 x.kind, .int .u64 x.num, .slice a1 x.bytes.length c1, .float .f64 x.real, .slice a2 m c2]) x (w1.alloc (.cells #[.int .i64 x.kind, .int .u64 x.num, .slice a1 x.bytes.length c1, .float .f64 x.real, .slice a2 m c2] 53)) (fun k hk => by have := hk.2; simp; omega)
      (ReadsS.kept (fun k hk => ⟨hk, Below.heap_alloc _ _ _ hk.2⟩) 16 _ _ HX.out))
    have hblk := new_five w1 #[.int .i64 x.kind, .int .u64 x.num, .slice a1 x.bytes.length c1, .float .f64 x.real, .slice a2 m c2] 53
    have HK := Lib.hid hblk
    clear hblk
    have HF : Hid (fieldsV kind count x = if numB x = false ∨ m ≠ count + 1 then .error 91 else if (at0 x.list 0).num ≠ kind then .error 90 else .ok (x.list.drop 1)) := Lib.hid (by
      unfold fieldsV numB
      rw [← HHL.out]
      have e : (x.kind ≠ 3 ∨ x.list.length ≠ count + 1 ∨ (x.list.getD 0 (numV 0)).kind ≠ 0) ↔ ((decide (x.kind = 3) && (decide (0 < x.list.length) && decide ((at0 x.list 0).kind = 0))) = false ∨ x.list.length ≠ count + 1) := by
        rw [Bool.eq_false_iff]
        simp only [ne_eq, Bool.and_eq_true, decide_eq_true_eq, at0]
        constructor
        · intro h
          by_cases hl : x.list.length = count + 1
          · exact Or.inl (fun k => by rcases h with h | h | h; exact h k.1; exact h hl; exact h (of_decide_eq_true k.2.2))
          · exact Or.inr hl
        · intro h
          by_cases hl : x.list.length = count + 1
          · rcases h with h | h
            · by_cases k1 : x.kind = 3
              · exact Or.inr (Or.inr (fun k3 => h ⟨k1, by omega, decide_eq_true k3⟩))
              · exact Or.inl k1
            · exact absurd hl h
          · exact Or.inr (Or.inl hl)
      simp only [e]
      rfl)
    generalize hB : numB x = nb at *
    go_wp2_with fail
    refine HN.out.mono ?_
    rintro e w2 ⟨rfl, hb2⟩
    have hs2 := hb2.size
    simp only [World.size_alloc] at hs2
    obtain ⟨⟨p0, p1, p2, p3, p4⟩, _⟩ := five_cells ((hb2.block w1.heap.size (by simp)).trans HK.out)
    have HB2 : Hid (Below w.heap.size w w2) := Lib.hid ((HB.out.alloc HB.out.size _).trans (hb2.mono (by simp; have := HS.out; omega)))
    have HW2 : Hid (∀ k, k < w1.heap.size → w2.heap[k]? = w1.heap[k]?) := Lib.hid (fun k hk => (hb2.block k (by simp; omega)).trans (Below.heap_alloc _ _ _ hk))
    clear hb2
    cases nb
    · have HE : Hid (fieldsV kind count x = .error 91) := Lib.hid (by rw [HF.out, if_pos (Or.inl rfl)])
      go_wp2_with fail
      refine ⟨rfl, ?_⟩
      rw [HE.out]
      exact ⟨rfl, HB2.out⟩
    · have hw1 : IntKind.i64.wrap (1 + (count : Int)) = 1 + (count : Int) := IntWalk.i64_in _ (by omega)
      by_cases hn : m = count + 1
      · obtain ⟨y, hy⟩ : ∃ y, x.list[0]? = some y := ⟨_, List.getElem?_eq_getElem (by rw [HHL.out]; omega)⟩
        have hL := HL.out
        rw [← HHL.out] at hL
        obtain ⟨g, o, b1, d1, b2, d2, rfl, hg, hlc, hcm, ⟨_, e1, _⟩, _⟩ := hL.el hy
        rw [HHL.out] at hlc
        clear hL
        simp only [Nat.zero_mul, Nat.add_zero] at e1
        have e2 : w2.cell? ⟨g, o + 1, none⟩ = some (.int .u64 y.num) := (World.cell?_of_block (w := w1) (HW2.out g hg.2)).trans e1
        have hy0 := at0_get hy
        rw [hy0] at HF
        have HLN := Lib.hid hn
        have HY := Lib.hid hy
        have HHG := Lib.hid hg
        have gl : (m : Int) = 1 + (count : Int) := by omega
        have hcl : count + 1 ≤ c2 := by omega
        clear hn hy hy0 e1 hlc hg
        have HS2 := Lib.hid hs2
        by_cases hkk : y.num = kind
        · have HE : Hid (fieldsV kind count x = .ok (x.list.drop 1)) := Lib.hid (by rw [HF.out, if_neg (by have := HLN.out; simp [this]), if_neg (by omega)])
          rw [hkk] at e2
          have HCM := Lib.hid hcm
          have HCL := Lib.hid hcl
          have hcw : (1 : Int) ≤ (c2 : Int) := by omega
          go_wp2_with fail
          go_ret
          rw [HE.out]
          refine ⟨_, rfl, ?_, HB2.out⟩
          have hm := HLN.out
          have h9 := HL.out
          have h10 := h9.tail HHL.out
          refine ListS.kept (by rw [List.length_drop, HHL.out]; omega) h10 (fun k hk => ⟨⟨hk.1, ?_⟩, HW2.out k hk.2⟩)
          have := HS2.out
          omega
        · have HE : Hid (fieldsV kind count x = .error 90) := Lib.hid (by rw [HF.out, if_neg (by have := HLN.out; simp [this]), if_pos hkk])
          have g9 : ((y.num : Int) == (kind : Int)) = false := by rw [beq_eq_false_iff_ne]; omega
          go_wp2_with fail
          refine ⟨rfl, ?_⟩
          rw [HE.out]
          exact ⟨rfl, HB2.out⟩
      · have HE : Hid (fieldsV kind count x = .error 91) := Lib.hid (by rw [HF.out, if_pos (Or.inr hn)])
        have g : ((m : Int) == 1 + (count : Int)) = false := by rw [beq_eq_false_iff_ne]; omega
        go_wp2_with fail
        refine ⟨rfl, ?_⟩
        rw [HE.out]
        exact ⟨rfl, HB2.out⟩
end Go.Proofs.YtdolonkeanlaoaaDoor
