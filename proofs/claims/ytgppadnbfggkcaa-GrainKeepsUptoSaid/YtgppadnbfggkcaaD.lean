/- Values, what they are written as, and the walk of write. -/
import Derived.Test.YtgppadnbfggkcaaC
namespace Go.Proofs.Ytgppadnbfggkcaa
open Go.RowKit

inductive Val where
  | mk (kind : Int) (num : Nat) (bytes : List UInt8) (real : Nat) (list : List Val)
instance : Inhabited Val := ⟨.mk 0 0 [] 0 []⟩
def foldE (g : List UInt8 → Val → Except Int (List UInt8)) : List Val → List UInt8 → Except Int (List UInt8)
  | [], o => .ok o
  | x :: r, o => match g o x with
    | .ok o' => foldE g r o'
    | .error c => .error c
def capE (r : Except Int (List UInt8)) : Except Int (List UInt8) :=
  match r with
  | .ok o => if 1048576 < o.length then .error 2 else .ok o
  | .error c => .error c
/-- What a value is written as, behind what is written, where it may lie n levels deep. -/
def encV : Nat → List UInt8 → Val → Except Int (List UInt8)
  | 0, _, _ => .error 24
  | n + 1, o, .mk k u b f l => capE (
    if k = 0 then .ok (o ++ headB 0 u)
    else if k = 1 then (if 1048576 < b.length then .error 2 else .ok (o ++ headB 1 b.length ++ b))
    else if k = 2 then .ok (o ++ floatL f)
    else if k = 3 then foldE (encV n) l (o ++ headB 3 l.length)
    else .error 22)
theorem capE_len {r : Except Int (List UInt8)} {o : List UInt8} (h : capE r = .ok o) : o.length ≤ 1048576 := by
  unfold capE at h
  cases r with
  | error c => cases h
  | ok x =>
    simp only at h
    split at h
    · cases h
    · injection h with h; subst h; omega
theorem enc_len : ∀ {n : Nat} {o : List UInt8} {x : Val} {r : List UInt8}, encV n o x = .ok r → r.length ≤ 1048576
  | 0, _, _, _, h => by simp only [encV] at h; cases h
  | n + 1, _, .mk .., _, h => by simp only [encV] at h; exact capE_len h
/-- The memory of a value, so many levels deep; all of it lies ahead of block B. -/
def ListIn (B : Nat) (w : World) (R : Value → Val → Prop) (v : Value) (l : List Val) : Prop :=
  (∃ a cap, v = .slice a 0 cap ∧ l = []) ∨ ∃ g o cap, v = .slice (some ⟨g, o, none⟩) l.length cap ∧ g < B ∧
    ∀ j x, l[j]? = some x → ∃ c0 c1 c2 c3 c4, w.cell? ⟨g, o + j * 5, none⟩ = some c0 ∧ w.cell? ⟨g, o + j * 5 + 1, none⟩ = some c1 ∧ w.cell? ⟨g, o + j * 5 + 2, none⟩ = some c2 ∧
      w.cell? ⟨g, o + j * 5 + 3, none⟩ = some c3 ∧ w.cell? ⟨g, o + j * 5 + 4, none⟩ = some c4 ∧ R (.agg #[c0, c1, c2, c3, c4]) x
def Reads (B : Nat) (w : World) : Nat → Value → Val → Prop
  | 0, v, .mk k u _ f _ => ∃ a1 n1 c1 a2 n2 c2, v = .agg #[.int .i64 k, .int .u64 u, .slice a1 n1 c1, .float .f64 f, .slice a2 n2 c2]
  | n + 1, v, .mk k u b f l => ∃ vb vl, v = .agg #[.int .i64 k, .int .u64 u, vb, .float .f64 f, vl] ∧ u < 18446744073709551616 ∧ f < 18446744073709551616 ∧
    b.length ≤ 1048576 ∧ l.length ≤ 1048576 ∧ BytesIn B w vb b ∧ ListIn B w (Reads B w n) vl l
theorem ListIn.below {B : Nat} {w w' : World} {R R' : Value → Val → Prop} {v : Value} {l : List Val} (h : ListIn B w R v l) (hb : Below B w w') (hR : ∀ v x, R v x → R' v x) : ListIn B w' R' v l := by
  rcases h with h | ⟨g, o, cap, h1, h2, h3⟩
  · exact Or.inl h
  · refine Or.inr ⟨g, o, cap, h1, h2, fun j x hj => ?_⟩
    obtain ⟨c0, c1, c2, c3, c4, e0, e1, e2, e3, e4, hr⟩ := h3 j x hj
    exact ⟨c0, c1, c2, c3, c4, (hb.cell h2).trans e0, (hb.cell h2).trans e1, (hb.cell h2).trans e2, (hb.cell h2).trans e3, (hb.cell h2).trans e4, hR _ _ hr⟩
theorem Reads.below {B : Nat} {w w' : World} (hb : Below B w w') : ∀ (n : Nat) (v : Value) (x : Val), Reads B w n v x → Reads B w' n v x
  | 0, v, .mk .., h => h
  | n + 1, v, .mk .., h => by
    obtain ⟨vb, vl, h1, h2, h3, h4, h5, h6, h7⟩ := h
    exact ⟨vb, vl, h1, h2, h3, h4, h5, h6.below hb, h7.below hb (Reads.below hb n)⟩
theorem BytesIn.shape {B : Nat} {w : World} {v : Value} {l : List UInt8} (h : BytesIn B w v l) : ∃ a cap, v = .slice a l.length cap := by
  rcases h with ⟨rfl, rfl⟩ | ⟨a, cap, rfl, _⟩
  · exact ⟨none, 0, rfl⟩
  · exact ⟨_, _, rfl⟩
theorem ListIn.shape {B : Nat} {w : World} {R : Value → Val → Prop} {v : Value} {l : List Val} (h : ListIn B w R v l) : ∃ a cap, v = .slice a l.length cap := by
  rcases h with ⟨a, cap, rfl, rfl⟩ | ⟨g, o, cap, rfl, _⟩
  · exact ⟨a, cap, rfl⟩
  · exact ⟨_, _, rfl⟩
theorem Reads.shape {B : Nat} {w : World} : ∀ {n : Nat} {v : Value} {k : Int} {u : Nat} {b : List UInt8} {f : Nat} {l : List Val}, Reads B w n v (.mk k u b f l) →
    ∃ a1 n1 c1 a2 n2 c2, v = .agg #[.int .i64 k, .int .u64 u, .slice a1 n1 c1, .float .f64 f, .slice a2 n2 c2]
  | 0, _, _, _, _, _, _, h => h
  | _ + 1, _, _, _, _, _, _, ⟨vb, vl, h, _, _, _, _, h5, h6⟩ => by
    obtain ⟨a1, c1, rfl⟩ := h5.shape
    obtain ⟨a2, c2, rfl⟩ := h6.shape
    exact ⟨a1, _, c1, a2, _, c2, h⟩
def EncGives (B : Nat) (w : World) (v : Value) (r : Except Int (List UInt8)) (e : Ending) (w' : World) : Prop :=
  match r with
  | .ok o => Gave B w v o e w'
  | .error c => Panics B w c e w'
def WriteOk (n : Nat) : Prop := ∀ (B : Nat) (v xv : Value) (x : Val) (o : List UInt8) (a : Nat) (w : World), a + n = 16 → o.length ≤ 1048576 + 16 * a → B ≤ w.heap.size → Own w B v o → Reads B w n xv x →
    Calls Try.prog 22 #[v, xv, .int .i64 a] w (EncGives B w v (encV n o x))
set_option maxRecDepth 100000 in
set_option maxHeartbeats 1000000 in
theorem write_deep : WriteOk 0 := by
  intro B v xv x o a w ha ho hB hO hR
  obtain ⟨k, u, b, f, l⟩ := x
  obtain ⟨a1, n1, c1, a2, n2, c2, rfl⟩ := hR.shape
  have e : a = 16 := by omega
  subst e
  clear hR hO
  go_enter Try.func22, Try.ntmps22
  go_wp2
  exact ⟨rfl, rfl, (Below.refl _ _).alloc hB _, by simp⟩
theorem own_slice {w : World} {B : Nat} {v : Value} {l : List UInt8} (h : Own w B v l) : ∃ a cap, v = .slice a l.length cap := by
  rcases h.2 with ⟨e, hn⟩ | ⟨g, cap, cur, e, _⟩
  · rw [hn]; exact ⟨none, 0, e⟩
  · exact ⟨_, _, e⟩
theorem cap_ok {o : List UInt8} (h : ¬ 1048576 < o.length) : capE (.ok o) = .ok o := by unfold capE; simp only; rw [if_neg h]
theorem cap_long {o : List UInt8} (h : 1048576 < o.length) : capE (.ok o) = .error 2 := by unfold capE; simp only; rw [if_pos h]
theorem enc_num (n : Nat) (o : List UInt8) (u : Nat) (b : List UInt8) (f : Nat) (l : List Val) : encV (n + 1) o (.mk 0 u b f l) = capE (.ok (o ++ headB 0 u)) := by simp only [encV]; rw [if_pos trivial]
theorem enc_bytes (n : Nat) (o : List UInt8) (u : Nat) (b : List UInt8) (f : Nat) (l : List Val) : encV (n + 1) o (.mk 1 u b f l) = capE (if 1048576 < b.length then .error 2 else .ok (o ++ headB 1 b.length ++ b)) := by
  simp only [encV]; rw [if_neg (by decide), if_pos trivial]
theorem enc_real (n : Nat) (o : List UInt8) (u : Nat) (b : List UInt8) (f : Nat) (l : List Val) : encV (n + 1) o (.mk 2 u b f l) = capE (.ok (o ++ floatL f)) := by
  simp only [encV]; rw [if_neg (by decide), if_neg (by decide), if_pos trivial]
theorem enc_list (n : Nat) (o : List UInt8) (u : Nat) (b : List UInt8) (f : Nat) (l : List Val) : encV (n + 1) o (.mk 3 u b f l) = capE (foldE (encV n) l (o ++ headB 3 l.length)) := by
  simp only [encV]; rw [if_neg (by decide), if_neg (by decide), if_neg (by decide), if_pos trivial]
theorem enc_other (n : Nat) (o : List UInt8) (k : Int) (u : Nat) (b : List UInt8) (f : Nat) (l : List Val) (h0 : k ≠ 0) (h1 : k ≠ 1) (h2 : k ≠ 2) (h3 : k ≠ 3) : encV (n + 1) o (.mk k u b f l) = .error 22 := by
  simp only [encV]; rw [if_neg h0, if_neg h1, if_neg h2, if_neg h3]; rfl
set_option maxRecDepth 100000 in
set_option maxHeartbeats 1000000 in
theorem write_other (B : Nat) (v vb vl : Value) (k : Int) (u f a : Nat) (w : World) (ha : a < 16) (hB : B ≤ w.heap.size) (h0 : (k == 0) = false) (h1 : (k == 1) = false) (h2 : (k == 2) = false) (h3 : (k == 3) = false) :
    Calls Try.prog 22 #[v, .agg #[.int .i64 k, .int .u64 u, vb, .float .f64 f, vl], .int .i64 a] w (Panics B w 22) := by
  go_enter Try.func22, Try.ntmps22
  go_wp2
  exact ⟨rfl, rfl, (Below.refl _ _).alloc hB _, by simp⟩
set_option maxRecDepth 100000 in
set_option maxHeartbeats 1000000 in
theorem write_num (B : Nat) (v vb vl : Value) (o : List UInt8) (u f a : Nat) (w : World) (ha : a < 16) (hu : u < 18446744073709551616) (ho : o.length ≤ 2097152) (hB : B ≤ w.heap.size) (hO : Own w B v o) :
    Calls Try.prog 22 #[v, .agg #[.int .i64 0, .int .u64 u, vb, .float .f64 f, vl], .int .i64 a] w (EncGives B w v (capE (.ok (o ++ headB 0 u)))) := by
  have HO := Lib.hid hO
  have HU := Lib.hid hu
  have HL := Lib.hid (headB_len 0 u hu)
  clear hO hu
  generalize hr : o ++ headB 0 u = r
  have HRR := Lib.hid hr
  clear hr
  generalize hx : capE (.ok r) = x
  have HX := Lib.hid hx
  clear hx
  go_enter Try.func22, Try.ntmps22
  go_wp2_with fail
  have hB1 : B ≤ (w.alloc (.cells #[.int .i64 0, .int .u64 u, vb, .float .f64 f, vl] 27)).heap.size := by simp; omega
  refine (writeHead_any B 0 u v o _ (by omega) HU.out (by omega) hB1 (World.ownsRow.alloc HO.out _)).mono ?_
  rintro e w1 ⟨v1, rfl, hown, hg1⟩
  have hrl : r.length ≤ 4194304 := by have hq := congrArg List.length HRR.out; have := HL.out; simp only [List.length_append] at hq; omega
  rw [HRR.out] at hown
  obtain ⟨sa, sc, rfl⟩ := own_slice hown
  have HV := Lib.hid hown
  have HG := Lib.hid ((Grew.alloc w v _).trans hg1)
  clear hown hg1
  by_cases hlong : 1048576 < r.length
  · have hx := HX.out.symm.trans (cap_long hlong)
    clear HX
    subst hx
    go_wp2_with fail
    exact ⟨rfl, rfl, HG.out.below HO.out hB, HG.out.size⟩
  · have hx := HX.out.symm.trans (cap_ok hlong)
    clear HX
    subst hx
    go_wp2_with fail
    go_ret
    exact ⟨_, rfl, HV.out, HG.out⟩
set_option maxRecDepth 100000 in
set_option maxHeartbeats 1000000 in
theorem write_long (B : Nat) (v vb vl : Value) (b : List UInt8) (u f a : Nat) (w : World) (ha : a < 16) (hb : b.length ≤ 281474976710656) (hl : 1048576 < b.length) (hB : B ≤ w.heap.size) (hI : BytesIn B w vb b) :
    Calls Try.prog 22 #[v, .agg #[.int .i64 1, .int .u64 u, vb, .float .f64 f, vl], .int .i64 a] w (Panics B w 2) := by
  have HI := Lib.hid hI
  have HL := Lib.hid hl
  clear hI hl
  go_enter Try.func22, Try.ntmps22
  go_wp2_with fail
  refine (writeBytes_long B v vb b _ hb (HI.out.below ((Below.refl B w).alloc hB _)) HL.out).mono ?_
  rintro e w1 ⟨rfl, hb1, hs1⟩
  go_wp2_with fail
  have HG := ((Below.refl B w).alloc hB _).trans hb1
  exact ⟨rfl, rfl, HG, HG.size⟩
set_option maxRecDepth 100000 in
set_option maxHeartbeats 1000000 in
theorem write_bytes (B : Nat) (v vb vl : Value) (o b : List UInt8) (u f a : Nat) (w : World) (ha : a < 16) (hb : b.length ≤ 1048576) (ho : o.length ≤ 2097152) (hB : B ≤ w.heap.size) (hO : Own w B v o) (hI : BytesIn B w vb b) :
    Calls Try.prog 22 #[v, .agg #[.int .i64 1, .int .u64 u, vb, .float .f64 f, vl], .int .i64 a] w (EncGives B w v (capE (.ok (o ++ headB 1 b.length ++ b)))) := by
  have HO := Lib.hid hO
  have HI := Lib.hid hI
  have HL := Lib.hid (headB_len 1 b.length (by omega))
  clear hO hI
  generalize hr : o ++ headB 1 b.length ++ b = r
  have HRR := Lib.hid hr
  clear hr
  generalize hx : capE (.ok r) = x
  have HX := Lib.hid hx
  clear hx
  go_enter Try.func22, Try.ntmps22
  go_wp2_with fail
  have hB1 : B ≤ (w.alloc (.cells #[.int .i64 1, .int .u64 u, vb, .float .f64 f, vl] 27)).heap.size := by simp; omega
  refine (writeBytes_fit B v vb o b _ hb ho hB1 (World.ownsRow.alloc HO.out _) (HI.out.below ((Below.refl B w).alloc hB _))).mono ?_
  rintro e w1 ⟨v1, rfl, hown, hg1⟩
  have hrl : r.length ≤ 4194304 := by have hq := congrArg List.length HRR.out; have := HL.out; simp only [List.length_append] at hq; omega
  rw [HRR.out] at hown
  obtain ⟨sa, sc, rfl⟩ := own_slice hown
  have HV := Lib.hid hown
  have HG := Lib.hid ((Grew.alloc w v _).trans hg1)
  clear hown hg1
  by_cases hlong : 1048576 < r.length
  · have hx := HX.out.symm.trans (cap_long hlong)
    clear HX
    subst hx
    go_wp2_with fail
    exact ⟨rfl, rfl, HG.out.below HO.out hB, HG.out.size⟩
  · have hx := HX.out.symm.trans (cap_ok hlong)
    clear HX
    subst hx
    go_wp2_with fail
    go_ret
    exact ⟨_, rfl, HV.out, HG.out⟩
set_option maxRecDepth 100000 in
set_option maxHeartbeats 1000000 in
theorem write_real (B : Nat) (v vb vl : Value) (o : List UInt8) (u f a : Nat) (w : World) (ha : a < 16) (hf : f < 18446744073709551616) (ho : o.length ≤ 2097152) (hB : B ≤ w.heap.size) (hO : Own w B v o) :
    Calls Try.prog 22 #[v, .agg #[.int .i64 2, .int .u64 u, vb, .float .f64 f, vl], .int .i64 a] w (EncGives B w v (capE (.ok (o ++ floatL f)))) := by
  have HO := Lib.hid hO
  have HF := Lib.hid hf
  have HL := Lib.hid (headB_len 2 0 (by omega))
  clear hO hf
  generalize hr : o ++ floatL f = r
  have HRR := Lib.hid hr
  clear hr
  generalize hx : capE (.ok r) = x
  have HX := Lib.hid hx
  clear hx
  go_enter Try.func22, Try.ntmps22
  go_wp2_with fail
  have hB1 : B ≤ (w.alloc (.cells #[.int .i64 2, .int .u64 u, vb, .float .f64 f, vl] 27)).heap.size := by simp; omega
  refine (writeFloat_any B v o f _ HF.out ho hB1 (World.ownsRow.alloc HO.out _)).mono ?_
  rintro e w1 ⟨v1, rfl, hown, hg1⟩
  have hrl : r.length ≤ 4194304 := by have hq := congrArg List.length HRR.out; have := HL.out; unfold floatL be8 at hq; simp at hq; omega
  rw [HRR.out] at hown
  obtain ⟨sa, sc, rfl⟩ := own_slice hown
  have HV := Lib.hid hown
  have HG := Lib.hid ((Grew.alloc w v _).trans hg1)
  clear hown hg1
  by_cases hlong : 1048576 < r.length
  · have hx := HX.out.symm.trans (cap_long hlong)
    clear HX
    subst hx
    go_wp2_with fail
    exact ⟨rfl, rfl, HG.out.below HO.out hB, HG.out.size⟩
  · have hx := HX.out.symm.trans (cap_ok hlong)
    clear HX
    subst hx
    go_wp2_with fail
    go_ret
    exact ⟨_, rfl, HV.out, HG.out⟩
end Go.Proofs.Ytgppadnbfggkcaa
