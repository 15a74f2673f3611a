/- The walk of the law GrainKeeps. -/
import Derived.Test.YtgppadnbfggkcaaAi
import Derived.Test.YtgppadnbfggkcaaAh
namespace Go.Proofs.Ytgppadnbfggkcaa
open Go.RowKit

def valOf (r : Except Int Val) : Val := match r with
  | .ok x => x
  | .error _ => .mk 0 0 [] 0 []
def codeOf {α : Type} (r : Except Int α) : Int := match r with
  | .ok _ => 0
  | .error c => c
theorem valOf_deep (l : List UInt8) : Deep 16 (valOf (decR l)) := by
  cases h : decR l with
  | error c => intro y hy; simp at hy
  | ok x =>
    unfold decR at h
    split at h
    · cases h
    cases hv : valD 16 l with
    | error c => rw [hv] at h; cases h
    | ok p =>
      obtain ⟨y, r⟩ := p
      rw [hv] at h
      cases r with
      | cons c r => cases h
      | nil => injection h with h; subst h; exact valD_deep hv
/-- Decode, whatever it answers. -/
theorem decode_sum (S : Nat → Prop) (v : Value) (l : List UInt8) (w : World) (hS : ∀ k, S k → k < w.heap.size) (hb : BytesC S w v l) :
    Calls Try.prog 12 #[v] w fun e w' => ∃ y, e = .returned (.tuple #[y, .int .i64 (codeOf (decR l))]) ∧ ReadsS (fun k => w.heap.size ≤ k ∧ k < w'.heap.size) w' 16 y (valOf (decR l)) ∧ Below w.heap.size w w' := by
  refine (decode_any S v l w hS hb).mono ?_
  cases h : decR l with
  | error c =>
    rintro e w' ⟨rfl, hb⟩
    exact ⟨_, rfl, ⟨_, _, rfl, by omega, by omega, by simp, by simp, Or.inl ⟨rfl, rfl⟩, Or.inl ⟨rfl, rfl⟩⟩, hb⟩
  | ok x =>
    rintro e w' ⟨y, rfl, hx, hb⟩
    exact ⟨y, rfl, hx, hb⟩
/-- Encode, whatever it answers. -/
theorem encode_sum (xv : Value) (x : Val) (w : World) (hR : Reads w.heap.size w 16 xv x) :
    Calls Try.prog 10 #[xv] w fun e w' => ∃ y o, e = .returned (.tuple #[y, .int .i64 (codeOf (encR x))]) ∧ BytesC (fun k => w.heap.size ≤ k ∧ k < w'.heap.size) w' y o ∧ Below w.heap.size w w' := by
  refine (encode_any xv x w hR).mono ?_
  cases h : encR x with
  | error c =>
    rintro e w' ⟨rfl, hb⟩
    exact ⟨_, [], rfl, Or.inl ⟨rfl, rfl⟩, hb⟩
  | ok o =>
    rintro e w' ⟨y, rfl, hx, hb⟩
    exact ⟨y, o, rfl, own_c hx, hb⟩
theorem bv_set (l : List UInt8) (j n : Nat) (h : n < 256) : (bv l).set j (.int .u8 n) = bv (l.set j (UInt8.ofNat n)) := by
  unfold bv
  rw [List.map_set, u8_of n h]
theorem Own.kept {w w' : World} {B : Nat} {v : Value} {l : List UInt8} (h : Own w B v l) (hk : ∀ k, v.ownBlock = some k → w'.heap[k]? = w.heap[k]?) : Own w' B v l := by
  refine ⟨h.1, ?_⟩
  rcases h.2 with h2 | ⟨g, cap, cur, e1, e2, e3, e4⟩
  · exact Or.inl h2
  · exact Or.inr ⟨g, cap, cur, e1, e2, (hk g (by rw [e1]; rfl)).trans e3, e4⟩
set_option maxRecDepth 100000 in
set_option maxHeartbeats 4000000 in
theorem law_keeps (bv0 : Value) (lb : List UInt8) (sv : Value) (s : List UInt8) (w : World) (hlb : lb.length ≤ 1048576) (hB : BytesC (fun k => k < w.heap.size) w bv0 lb) (hsl : s.length ≤ 1048576) (hS : BytesC (fun k => k < w.heap.size) w sv s) :
    Calls Try.prog 8 #[bv0, sv] w (True' w) := by
  have hst := run_storeF
  obtain ⟨i0, hi, hz0, hz1, hz2⟩ := info_parts Try.info5
  have HB := Lib.hid hB
  have HSS := Lib.hid hS
  obtain ⟨ba, bc, rfl⟩ := hB.shape
  obtain ⟨sa, sc, rfl⟩ := hS.shape
  clear hB hS
  go_enter Try.func8, Try.ntmps8
  go_wp2_with fail
  refine (awake_any _).mono ?_
  rintro e w1 ⟨rfl, hb1⟩
  have hs1 := hb1.size
  have HB1 := Lib.hid hb1
  have HS1 := Lib.hid (HSS.out.kept (S' := fun k => k < w1.heap.size + 1) (w' := w1.alloc (.cells #[] 5)) (fun k hk => ⟨by omega, (Below.heap_alloc w1 (.cells #[] 5) k (by omega)).trans (hb1.block k hk)⟩))
  have HE0 := Lib.hid (own_empty w1)
  clear hb1
  go_wp2_with (at_builtin; refine wpList_own_src _ rfl _ _ 23 23 rfl w1.heap.size 5 i0 (.int .u8 0) 1 1 Try.underlying23 hi hz0 hz1 hz2 rfl (by decide) _ _ _ rfl HE0.out _ _ _ rfl HS1.out.srcC ?c3 ?c4 ?c5 ?_)
  case c3 => simp; unfold maxLen; omega
  case c4 => simp; omega
  case c5 => simp
  intro v2 w2 hown2 hg2
  have hO2 : Own w2 w1.heap.size v2 s := own_more' (l := []) (by simp) hown2
  have hs2 := hg2.size
  simp at hs2
  have HB2 := Lib.hid (HB1.out.trans (((Below.refl w1.heap.size w1).alloc (Nat.le_refl _) _ |>.grown hg2.gb (by simp) (fun k hk => by simp [Value.ownBlock] at hk; omega)).mono hs1))
  clear hown2 hg2
  go_wp2_with (at_builtin; refine wpList_own_src _ rfl _ _ 23 23 rfl w1.heap.size 5 i0 (.int .u8 0) 1 1 Try.underlying23 hi hz0 hz1 hz2 rfl (by decide) _ _ _ rfl (hO2.alloc _) _ 1 [.int .u8 77] rfl (src_one _ _) ?d3 ?d4 ?d5 ?_)
  case d3 => unfold maxLen; omega
  case d4 => omega
  case d5 => simp; omega
  intro v3 w3 hown3 hg3
  have hO3 : Own w3 w1.heap.size v3 (s ++ [77]) := own_one hown3
  have hs3 := hg3.size
  simp at hs3
  have HB3 := Lib.hid ((HB2.out.alloc (by omega) _).trans (((Below.refl w1.heap.size _).grown hg3.gb (by simp; omega) (fun k hk => (World.ownsRow.lt hO2 k hk).1)).mono hs1))
  rcases hO3.2 with ⟨_, h0⟩ | ⟨g, cap, cur, rfl, hgB, hgc, hgn, hgm, _⟩
  · simp at h0
  have hgl : g < w3.heap.size := (Array.getElem?_eq_some_iff.1 hgc).1
  simp only [List.length_append, List.length_cons, List.length_nil] at hgn
  rw [show (s ++ [(77 : UInt8)]).length = s.length + 1 by simp] at hO3 ⊢
  have HO3 := Lib.hid hO3
  have hcm : cap ≤ 9223372036854775807 := by unfold maxLen at hgm; omega
  clear hown3 hg3 hO2 hO3 hgc hgm
  go_wp2_with fail
  have hbx := new_five w3 #[.int .i64 1, .int .u64 0, .slice (some ⟨g, 0, none⟩) s.length cap, .float .f64 0, .slice none 0 0] 27
  have hb4 := HB3.out.alloc (by omega) (.cells #[.int .i64 1, .int .u64 0, .slice (some ⟨g, 0, none⟩) s.length cap, .float .f64 0, .slice none 0 0] 27)
  have ho4 := World.ownsRow.alloc HO3.out (.cells #[.int .i64 1, .int .u64 0, .slice (some ⟨g, 0, none⟩) s.length cap, .float .f64 0, .slice none 0 0] 27)
  have hs4 : w3.heap.size < (w3.alloc (.cells #[.int .i64 1, .int .u64 0, .slice (some ⟨g, 0, none⟩) s.length cap, .float .f64 0, .slice none 0 0] 27)).heap.size := by simp
  generalize w3.alloc (.cells #[.int .i64 1, .int .u64 0, .slice (some ⟨g, 0, none⟩) s.length cap, .float .f64 0, .slice none 0 0] 27) = w4 at *
  have ho4 : Own w4 w1.heap.size (.slice (some ⟨g, 0, none⟩) (s.length + 1) cap) (s ++ [77]) := ho4
  obtain ⟨b5, hb5e⟩ : ∃ b5, b5 = w3.heap.size := ⟨_, rfl⟩
  have HB5E := Lib.hid hb5e
  rw [← hb5e] at hbx hs4 ⊢
  have hg5 : g < b5 := by omega
  have cutV : ∀ w' B', Own w' B' (.slice (some ⟨g, 0, none⟩) (s.length + 1) cap) (s ++ [77]) → BytesC (fun k => B' ≤ k ∧ k < w'.heap.size) w' (.slice (some ⟨g, 0, none⟩) s.length cap) s := by
    intro w' B' h
    have hc := own_c h
    rw [show s.length + 1 = (s ++ [(77 : UInt8)]).length by simp] at hc
    have h2 := cut_c hc s.length (by simp)
    rw [List.take_left] at h2
    exact h2
  have CV := Lib.hid cutV
  have hrd4 : Reads w4.heap.size w4 16 (.agg #[.int .i64 1, .int .u64 0, .slice (some ⟨g, 0, none⟩) s.length cap, .float .f64 0, .slice none 0 0]) (.mk 1 0 s 0 []) :=
    ⟨_, _, rfl, by omega, by omega, hsl, by simp, (cutV _ _ ho4).into (fun k hk => hk.2), Or.inl ⟨none, 0, rfl, rfl⟩⟩
  have HEN := Lib.hid (encode_sum _ _ w4 hrd4)
  have HBX := Lib.hid hbx
  have HO4 := Lib.hid ho4
  have HB4 := Lib.hid hb4
  clear hbx hb4 ho4 cutV hrd4 hb5e
  refine HEN.out.mono ?_
  rintro e w5 ⟨xv, xo, rfl, hxb, hb5⟩
  have hs5 := hb5.size
  have HXB := Lib.hid hxb
  have HO5 := Lib.hid (Own.kept HO4.out (w' := w5) (fun k hk => hb5.block k (by simp [Value.ownBlock] at hk; omega)))
  have HBX5 := Lib.hid ((hb5.block b5 (by omega)).trans HBX.out)
  have HB5 := Lib.hid (HB4.out.trans (hb5.mono HB4.out.size))
  have HBC := Lib.hid (HB.out.kept (S' := fun k => k < w5.heap.size + 1) (w' := w5.alloc (.cells #[] 5)) (fun k hk => ⟨by have := HB5.out.size; omega, (Below.heap_alloc w5 (.cells #[] 5) k (by have := HB5.out.size; omega)).trans (HB5.out.block k hk)⟩))
  have HE5 := Lib.hid (own_empty w5)
  obtain ⟨xa, xc, rfl⟩ := hxb.shape
  clear hxb hb5 HEN HO4 HB4 HB3
  go_wp2_with (at_builtin; refine wpList_own_src _ rfl _ _ 23 23 rfl w5.heap.size 5 i0 (.int .u8 0) 1 1 Try.underlying23 hi hz0 hz1 hz2 rfl (by decide) _ _ _ rfl HE5.out _ _ _ rfl HBC.out.srcC ?e3 ?e4 ?e5 ?_)
  case e3 => simp; unfold maxLen; omega
  case e4 => simp; omega
  case e5 => simp
  intro v6 w6 hown6 hg6
  have hO6 : Own w6 w5.heap.size v6 lb := own_more' (l := []) (by simp) hown6
  have hs6 := hg6.size
  simp at hs6
  have hb6 : Below w5.heap.size w5 w6 := (Below.refl w5.heap.size w5).alloc (Nat.le_refl _) _ |>.grown hg6.gb (by simp) (fun k hk => by simp [Value.ownBlock] at hk; omega)
  have HB6 := Lib.hid (HB5.out.trans (hb6.mono HB5.out.size))
  have HBB6 := Lib.hid hb6
  have HO6 := Lib.hid hO6
  obtain ⟨ma, mc, rfl⟩ := own_slice hO6
  clear hown6 hg6 hO6 hb6
  go_wp2_with fail
  refine (decode_sum _ _ lb w6 (fun k hk => hk.2) (own_c HO6.out)).mono ?_
  rintro e w7 ⟨yv, rfl, hy7, hb7⟩
  have hs7 := hb7.size
  have HY7 := Lib.hid hy7
  have HB7 := Lib.hid (HB6.out.trans (hb7.mono HB6.out.size))
  have HBB7 := Lib.hid hb7
  have HVD := Lib.hid (valOf_deep lb)
  generalize hyx : valOf (decR lb) = yx at *
  generalize hyc : codeOf (decR lb) = yc at *
  have HYC := Lib.hid hyc
  have HYX := Lib.hid hyx
  clear hyc hyx
  obtain ⟨yk, yu, yb, yf, yl⟩ := yx
  obtain ⟨ya1, yn1, yp1, ya2, yn2, yp2, rfl⟩ := hy7.shape
  clear hy7 hb7
  go_upto_region 7 with fail
  have hbx9 := new_five w7 #[.int .i64 yk, .int .u64 yu, .slice ya1 yn1 yp1, .float .f64 yf, .slice ya2 yn2 yp2] 27
  have hb8 : Below w7.heap.size w7 (w7.alloc (.cells #[.int .i64 yk, .int .u64 yu, .slice ya1 yn1 yp1, .float .f64 yf, .slice ya2 yn2 yp2] 27)) := (Below.refl _ _).alloc (Nat.le_refl _) _
  have hs8 : w7.heap.size < (w7.alloc (.cells #[.int .i64 yk, .int .u64 yu, .slice ya1 yn1 yp1, .float .f64 yf, .slice ya2 yn2 yp2] 27)).heap.size := by simp
  generalize w7.alloc (.cells #[.int .i64 yk, .int .u64 yu, .slice ya1 yn1 yp1, .float .f64 yf, .slice ya2 yn2 yp2] 27) = w8 at *
  obtain ⟨b9, hb9e⟩ : ∃ b9, b9 = w7.heap.size := ⟨_, rfl⟩
  rw [← hb9e] at hbx9 ⊢
  have hb57 : Below w5.heap.size w5 w7 := HBB6.out.trans (HBB7.out.mono (by omega))
  have hb58 : Below w5.heap.size w5 w8 := hb57.trans (hb8.mono (by omega))
  have HBX9 := Lib.hid hbx9
  have HY8 := Lib.hid (ReadsS.kept (S' := fun k => w6.heap.size ≤ k ∧ k < w7.heap.size) (fun k hk => ⟨hk, hb8.block k hk.2⟩) 16 _ _ HY7.out)
  have HO8m := Lib.hid (Own.kept HO6.out (w' := w8) (fun k hk => by
    have := (World.ownsRow.lt HO6.out k hk).2
    exact (hb8.block k (by omega)).trans (HBB7.out.block k this)))
  have hgm : ∀ k, (Value.slice ma lb.length mc).ownBlock = some k → w5.heap.size ≤ k ∧ k < w6.heap.size := fun k hk => World.ownsRow.lt HO6.out k hk
  have HGM := Lib.hid hgm
  have HO8v := Lib.hid (Own.kept HO5.out (w' := w8) (fun k hk => hb58.block k (World.ownsRow.lt HO5.out k hk).2))
  have HBX8 := Lib.hid ((hb58.block b5 (by omega)).trans HBX5.out)
  have HX8 := Lib.hid (HXB.out.kept (S' := fun k => w4.heap.size ≤ k ∧ k < w5.heap.size) (fun k hk => ⟨hk, hb58.block k hk.2⟩))
  have HB8 := Lib.hid (HB7.out.trans (hb8.mono HB7.out.size))
  have hs79 : b9 = w7.heap.size := hb9e
  have HB9E := Lib.hid hb9e
  have hb97 : w7.heap.size ≤ b9 := by omega
  have hb97' : b9 < w8.heap.size := by omega
  clear hbx9 hb8 hb57 hb58 hgm hb9e hs79 HY7 HO6 HO5 HBX5 HXB HB7 HBB7 HBB6 HB6
  go_wp2_with fail
  go_loopw [42] (fun i wr => ∃ (j : Nat) (l' : List UInt8), j ≤ lb.length ∧ i = .int .i64 j ∧ l'.length = lb.length ∧ Own wr w5.heap.size (.slice ma lb.length mc) l' ∧ w8.grownBy wr (Value.slice ma lb.length mc).ownBlock)
    (fun i _ => lb.length - (intOf i).toNat)
  case atStart => exact ⟨0, lb, Nat.zero_le _, rfl, rfl, HO8m.out, kb_refl _ _⟩
  case round =>
    obtain ⟨j, l', hj, rfl, hl', hown, hgr⟩ := hrel
    have HL' := Lib.hid hl'
    have HGR := Lib.hid hgr
    by_cases hlt : j < lb.length
    · rcases hown.2 with ⟨h0, h1⟩ | ⟨gm, mcap, mcur, hv, _⟩
      · rw [hl'] at h1; omega
      injection hv with hv1 _ hv2
      subst hv1 hv2
      have hown2 := hown
      unfold Own at hown2
      rw [hl'] at hown2
      have hjl : j < l'.length := by omega
      have hc := World.ownsRow.cellAt hown2 j (by omega)
      have hz := World.ownsRow.frozenAt hown2 j
      have hbj : (bv l')[j]? = some (.int .u8 (l'[j]).toNat) := by unfold bv; rw [List.getElem?_map, List.getElem?_eq_getElem hjl]; rfl
      rw [hbj] at hc
      have hlt256 := (l'[j]).toNat_lt
      generalize (l'[j]).toNat = cj at *
      have hst2 := World.ownsRow.stored hown2 j (.int .u8 ((cj + 1) % 256 : Nat))
      rw [bv_set l' j _ (by omega)] at hst2
      have hwr : IntKind.u8.wrap ((cj : Int) + 1) = (((cj + 1) % 256 : Nat) : Int) := by simp [IntKind.wrap, IntKind.bits, IntKind.signed]
      have HST := Lib.hid hst2
      clear hown hown2 hst2 hbj hl' hgr
      go_wp2_with fail
      have e : (((cj + 1) % 256 : Nat) : Int) = ((cj : Int) + 1) % 256 := by omega
      have hst2 := HST.out
      rw [e] at hst2
      refine ⟨⟨j + 1, l'.set j (UInt8.ofNat ((cj + 1) % 256)), by omega, by go_num, by rw [List.length_set]; exact HL'.out, ?_, kb_trans HGR.out hst2.2⟩, by simp [intOf]; omega⟩
      have e2 : (l'.set j (UInt8.ofNat ((cj + 1) % 256))).length = lb.length := by rw [List.length_set]; exact HL'.out
      unfold Own
      rw [e2]
      exact hst2.1
    · have hsr := hgr.size
      have hgmb := HGM.out
      have blk : ∀ k, k < w8.heap.size → (∀ q, (Value.slice ma lb.length mc).ownBlock = some q → k ≠ q) → wr.heap[k]? = w8.heap[k]? := fun k hk hq => hgr.block k hk (fun e => hq k e.symm rfl)
      have HBB : Hid (Below w.heap.size w wr) := Lib.hid (HB8.out.grown hgr HB8.out.size (fun k hk => by have := hgmb k hk; omega))
      have HBCR := Lib.hid (HB.out.kept (S' := fun k => k < wr.heap.size) (fun k hk => ⟨by omega, HBB.out.block k hk⟩))
      have HSCR := Lib.hid (HSS.out.kept (S' := fun k => k < wr.heap.size) (fun k hk => ⟨by omega, HBB.out.block k hk⟩))
      have HYR := Lib.hid (ReadsS.kept (S' := fun k => w6.heap.size ≤ k ∧ k < w7.heap.size) (fun k hk => ⟨hk, blk k (by omega) (fun q hq => by have := hgmb q hq; omega)⟩) 16 _ _ HY8.out)
      have HX9 := Lib.hid ((blk b9 hb97' (fun q hq => by have := hgmb q hq; omega)).trans HBX9.out)
      have HVR := Lib.hid (Own.kept HO8v.out (w' := wr) (fun k hk => by
        have hk2 : k = g := by simp [Value.ownBlock] at hk; omega
        subst hk2
        exact blk k (by omega) (fun q hq => by have := hgmb q hq; omega)))
      have HX5 := Lib.hid ((blk b5 (by omega) (fun q hq => by have := hgmb q hq; omega)).trans HBX8.out)
      have HXR := Lib.hid (HX8.out.kept (S' := fun k => w4.heap.size ≤ k ∧ k < w5.heap.size) (fun k hk => ⟨hk, blk k (by omega) (fun q hq => by have := hgmb q hq; omega)⟩))
      clear hown hgr hgmb blk HGR HO8m HO8v HBX8 HX8 HB8 HY8 HBX9
      go_wp2_with fail
      refine (decode_sum _ _ lb wr (fun k hk => hk) HBCR.out).mono ?_
      rintro e w10 ⟨zv, rfl, hz10, hb10⟩
      rw [HYC.out]
      rw [HYX.out] at hz10
      have hs10 := hb10.size
      obtain ⟨za1, zn1, zp1, za2, zn2, zp2, rfl⟩ := hz10.shape
      have HZ10 := Lib.hid hz10
      have HB10 := Lib.hid hb10
      clear hz10 hb10
      go_upto_region 13 with fail
      have hbx12 := new_five w10 #[.int .i64 yk, .int .u64 yu, .slice za1 zn1 zp1, .float .f64 yf, .slice za2 zn2 zp2] 27
      have hb11 : Below w10.heap.size w10 (w10.alloc (.cells #[.int .i64 yk, .int .u64 yu, .slice za1 zn1 zp1, .float .f64 yf, .slice za2 zn2 zp2] 27)) := (Below.refl _ _).alloc (Nat.le_refl _) _
      generalize w10.alloc (.cells #[.int .i64 yk, .int .u64 yu, .slice za1 zn1 zp1, .float .f64 yf, .slice za2 zn2 zp2] 27) = w11 at *
      have hs11 := hb11.size
      have hbr : Below wr.heap.size wr w11 := HB10.out.trans (hb11.mono hs10)
      have HBR := Lib.hid hbr
      have hry : Reads w11.heap.size w11 16 _ _ := ReadsS.into (S := fun k => k < w11.heap.size) (fun k hk => hk) 16 _ _ (ReadsS.kept (fun k hk => ⟨by omega, hbr.block k (by omega)⟩) 16 _ _ HYR.out)
      have hrz : Reads w11.heap.size w11 16 _ _ := ReadsS.into (S := fun k => k < w11.heap.size) (fun k hk => hk) 16 _ _ (ReadsS.kept (fun k hk => ⟨by omega, hb11.block k hk.2⟩) 16 _ _ HZ10.out)
      have HSM := Lib.hid (same_ok 16 _ _ _ _ w11 (Nat.le_refl _) HVD.out hry hrz)
      obtain ⟨⟨c0, c1, c2, c3, c4⟩, _⟩ := five_cells ((hbr.block b9 (by omega)).trans HX9.out)
      obtain ⟨⟨d0, d1, d2, d3, d4⟩, _⟩ := five_cells hbx12
      clear hry hrz hbx12 hb11 hbr
      go_wp2_with fail
      refine HSM.out.mono ?_
      rintro e w12 ⟨rfl, hb12⟩
      have hs12 := hb12.size
      have hbr2 : Below wr.heap.size wr w12 := HBR.out.trans (hb12.mono (by omega))
      obtain ⟨⟨f0, f1, f2, f3, f4⟩, g0, g1, g2, g3, g4⟩ := five_cells ((hbr2.block b5 (by omega)).trans HX5.out)
      have HV12 := Lib.hid (Own.kept HVR.out (w' := w12) (fun k hk => hbr2.block k (by simp [Value.ownBlock] at hk; omega)))
      have hcv := bytes_string ((CV.out _ _ HV12.out).into (B := w12.heap.size) (fun k hk => hk.2))
      have hcs := bytes_string ((HSCR.out.into (B := wr.heap.size) (fun k hk => hk)).below hbr2)
      have HXX := Lib.hid (HXR.out.kept (S' := fun k => w4.heap.size ≤ k ∧ k < w5.heap.size) (fun k hk => ⟨hk, hbr2.block k (by omega)⟩))
      have hcx := bytes_string (HXX.out.into (B := w12.heap.size) (fun k hk => by omega))
      have hc77 : w12.cell? ⟨g, s.length, none⟩ = some (.int .u8 77) := by
        have h := HV12.out
        unfold Own at h
        rw [show (s ++ [(77 : UInt8)]).length = s.length + 1 by simp] at h
        rw [World.ownsRow.cellAt h s.length (by omega)]
        unfold bv
        simp
      have HB12 := Lib.hid (HBB.out.trans (hbr2.mono HBB.out.size))
      have H5 := Lib.hid ((hbr2.block b5 (by omega)).trans HX5.out)
      clear hb12 hbr2 c0 c1 c2 c3 c4 d0 d1 d2 d3 d4
      go_wp2_with fail
      clear hcx hc77 hcv hcs f0 f1 f2 f3 f4 g0 g1 g2 g3 g4
      go_loopw [92] (fun i wq => ∃ (j : Nat) (l' : List UInt8), j ≤ s.length ∧ i = .int .i64 j ∧ l'.length = s.length + 1 ∧ Own wq w1.heap.size (.slice (some ⟨g, 0, none⟩) (s.length + 1) cap) l' ∧ w12.grownBy wq (some g))
        (fun i _ => s.length - (intOf i).toNat)
      case atStart => exact ⟨0, s ++ [77], Nat.zero_le _, rfl, by simp, HV12.out, kb_refl _ _⟩
      case round =>
        obtain ⟨j2, l2, hj2, rfl, hl2, hown2, hgr2⟩ := hrel
        have HL2 := Lib.hid hl2
        have HGR2 := Lib.hid hgr2
        by_cases hlt2 : j2 < s.length
        · have hown3 := hown2
          unfold Own at hown3
          rw [hl2] at hown3
          have hjl2 : j2 < l2.length := by omega
          have hc := World.ownsRow.cellAt hown3 j2 (by omega)
          have hz := World.ownsRow.frozenAt hown3 j2
          have hbj : (bv l2)[j2]? = some (.int .u8 (l2[j2]).toNat) := by unfold bv; rw [List.getElem?_map, List.getElem?_eq_getElem hjl2]; rfl
          rw [hbj] at hc
          have hlt256 := (l2[j2]).toNat_lt
          generalize (l2[j2]).toNat = cj at *
          have hst2 := World.ownsRow.stored hown3 j2 (.int .u8 ((cj + 1) % 256 : Nat))
          rw [bv_set l2 j2 _ (by omega)] at hst2
          have hb52 := (five_cells ((hgr2.block b5 (by omega) (fun e => by injection e with e; omega)).trans H5.out)).1.2.2.1
          have HST := Lib.hid hst2
          clear hown2 hown3 hst2 hbj hl2 hgr2
          go_wp2_with fail
          have e : (((cj + 1) % 256 : Nat) : Int) = ((cj : Int) + 1) % 256 := by omega
          have hst2 := HST.out
          rw [e] at hst2
          refine ⟨⟨j2 + 1, l2.set j2 (UInt8.ofNat ((cj + 1) % 256)), by omega, by go_num, by rw [List.length_set]; exact HL2.out, ?_, kb_trans HGR2.out hst2.2⟩, by simp [intOf]; omega⟩
          have e2 : (l2.set j2 (UInt8.ofNat ((cj + 1) % 256))).length = s.length + 1 := by rw [List.length_set]; exact HL2.out
          unfold Own
          rw [e2]
          exact hst2.1
        · have hsq := hgr2.size
          have hcx := bytes_string ((HXX.out.kept (S' := fun k => w4.heap.size ≤ k ∧ k < w5.heap.size) (fun k hk => ⟨hk, hgr2.block k (by omega) (fun e => by injection e with e; omega)⟩)).into (B := _) (fun k hk => hk.2))
          have HBQ := Lib.hid (HB12.out.grown hgr2 HB12.out.size (fun k hk => by injection hk with hk; omega))
          clear hown2 hgr2 HGR2
          go_wp2_with fail
          go_ret
          exact ⟨rfl, HBQ.out⟩
end Go.Proofs.Ytgppadnbfggkcaa
