/- Contracts: strings.Cut at one byte, readPlain, read, Parse. -/
import Derived.Test.YtgppadnbfggkcaaDoorD
import Derived.Test.YtgppadnbfggkcaaDoorN
import Derived.Lib.ParseIntBCases
import Derived.Lib.CutLaws
import Derived.Lib.IndexBytes
import Derived.Lib.AtoiErrMem
import Derived.RegionTactic
import Derived.Deep.QuietTactic
import Derived.BigQuiet
namespace Go.Proofs.YtgppadnbfggkcaaDoor
open Go.RowKit Go.Shelf Go.Sort Go.Lib

set_option maxHeartbeats 1000000 in
set_option maxRecDepth 100000 in
theorem cut_in (s : ByteArray) (hs : s.size ≤ 9223372036854775807) (w : World) :
    Calls Tryd.prog 52 #[.string s, .string ⟨#[112]⟩] w fun e w' => e = .returned (.tuple #[.string ⟨(Lib.cut s.data.toList [112]).1.toArray⟩, .string ⟨(Lib.cut s.data.toList [112]).2.1.toArray⟩, .bool (Lib.cut s.data.toList [112]).2.2]) ∧ Below w.heap.size w w' := by
  have hI : ∀ w, Calls Tryd.prog 63 #[.string s, .string ⟨#[112]⟩] w fun e w' => e = .returned (.int .i64 (Lib.index s.data.toList [112])) ∧ w' = w := fun w => by
    rw [Lib.index_one]; exact Tryd.stringslite_Index_one s 112 w
  have hd : (⟨#[112]⟩ : ByteArray).data.toList = [112] := rfl
  rcases Lib.indexB_cases s ⟨#[112]⟩ with hix | ⟨i, hix, hroom⟩
  · obtain ⟨e1, e2, e3⟩ := Lib.cutB_miss s ⟨#[112]⟩ hix
    rw [hd] at e1 e2 e3
    have hix' : Lib.index s.data.toList [112] = -1 := hix
    rw [e1, e2, e3]
    have HI := Lib.hid hI
    have HX := Lib.hid hix'
    clear hI hix hix' hd e1 e2 e3
    go_enter Tryd.func52, Tryd.ntmps52
    go_wp2_with fail
    refine (HI.out _).mono ?_
    rw [HX.out]
    rintro e w' ⟨rfl, rfl⟩
    go_wp2
    go_ret3
    exact ⟨rfl, Below.refl _ _⟩
  · obtain ⟨e1, e2, e3⟩ := Lib.cutB_hit s ⟨#[112]⟩ i hix
    rw [hd] at e1 e2 e3
    have hix' : Lib.index s.data.toList [112] = i := hix
    rw [e1, e2, e3]
    have hz : (⟨#[112]⟩ : ByteArray).size = 1 := rfl
    have hz2 : i + 1 ≤ s.size := hroom
    have c1 : (0 : Int) ≤ ↑i := by omega
    have c2 : (↑i : Int) ≤ ↑s.size := by omega
    have c3 : (0 : Int) ≤ ↑i + 1 := by omega
    have c4 : (↑i + 1 : Int) ≤ ↑s.size := by have : (⟨#[112]⟩ : ByteArray).size = 1 := rfl; omega
    have c5 : IntKind.i64.wrap ((i : Int) + 1) = (i : Int) + 1 := by rw [IntKind.wrap_i64]; omega
    have c6 : wrap64 ((i : Int) + 1) = (i : Int) + 1 := by unfold wrap64; omega
    have HI := Lib.hid hI
    have HX := Lib.hid hix'
    clear hI hix hix' hd e1 e2 e3 hz
    go_enter Tryd.func52, Tryd.ntmps52
    go_wp2_with fail
    refine (HI.out _).mono ?_
    rw [HX.out]
    rintro e w' ⟨rfl, rfl⟩
    go_wp2
    go_region
    all_goals go_wp2
    all_goals go_ret3
    all_goals exact ⟨rfl, (Below.refl _ _).drew⟩
set_option maxHeartbeats 400000 in
theorem cut_any (s : ByteArray) (hs : s.size ≤ 9223372036854775807) (w : World) :
    Calls Tryd.prog 44 #[.string s, .string ⟨#[112]⟩] w fun e w' => e = .returned (.tuple #[.string ⟨(Lib.cut s.data.toList [112]).1.toArray⟩, .string ⟨(Lib.cut s.data.toList [112]).2.1.toArray⟩, .bool (Lib.cut s.data.toList [112]).2.2]) ∧ Below w.heap.size w w' := by
  have H := Lib.hid (cut_in s hs w)
  clear hs
  generalize (Lib.cut s.data.toList [112]).1 = l1 at *
  generalize (Lib.cut s.data.toList [112]).2.1 = l2 at *
  generalize (Lib.cut s.data.toList [112]).2.2 = l3 at *
  go_enter Tryd.func44, Tryd.ntmps44
  go_wp2_with fail
  refine H.out.mono ?_
  rintro e w' ⟨rfl, hb⟩
  go_wp2
  go_ret3
  exact ⟨rfl, hb⟩

theorem below_bytes (w : World) (t : TypeId) (s : ByteArray) : Below w.heap.size w (Lib.bytesWorld w t s) := by
  exact Lib.bytesWorld_below w t s
theorem pu_ok (s : ByteArray) (hs : s.size ≤ 281474976710656) (u : Nat) (h : Lib.parseUintB 64 s.data.toList = .ok u) (w : World) :
    Calls Tryd.prog 45 #[.string s, .int .i64 10, .int .i64 64] w fun e w' => e = .returned (.tuple #[.int .u64 u, .nilIface]) ∧ Below w.heap.size w w' :=
  (Tryd.strconv_ParseUint_10_at64_ok s (by omega) u h w).mono fun e w' ⟨he, hw⟩ => ⟨he, by
    rcases hw with rfl | rfl
    · exact Below.refl _ _
    · exact below_bytes _ _ _⟩
def BadNum (k : IntKind) (w : World) (e : Ending) (w' : World) : Prop := ∃ (v : Int) (N : Nat), e = .returned (.tuple #[.int k v, .iface 85 (.pointer (some ⟨N, 0, none⟩))]) ∧ Below w.heap.size w w'
theorem pu_bad (s : ByteArray) (hs : s.size ≤ 281474976710656) (h : ∀ u, Lib.parseUintB 64 s.data.toList ≠ .ok u) (w : World) (hE : Env w) :
    Calls Tryd.prog 45 #[.string s, .int .i64 10, .int .i64 64] w (BadNum .u64 w) := by
  cases hr : Lib.parseUintB 64 s.data.toList
  · rename_i u
    exact absurd hr (h u)
  · obtain ⟨tp, p, hv⟩ := hE.syn
    refine (Any.strconv_ParseUint_10_at64_syntax Tryd.laysPu14 s hs hr (.iface tp p) w hv (Or.inr ⟨tp, p, rfl⟩)).mono ?_
    rintro e w' ⟨N, he, _, _, hb⟩
    exact ⟨0, N, he, hb⟩
  · obtain ⟨tp, p, hv⟩ := hE.rng
    refine (Any.strconv_ParseUint_10_at64_range Tryd.laysPu14 s hs hr (.iface tp p) w hv (Or.inr ⟨tp, p, rfl⟩)).mono ?_
    rintro e w' ⟨N, he, _, _, hb⟩
    exact ⟨_, N, he, hb⟩
theorem at_ok (s : ByteArray) (hs : s.size ≤ 281474976710656) (n : Int) (h : Lib.atoiAll s.data.toList = .ok n) (w : World) :
    Calls Tryd.prog 46 #[.string s] w fun e w' => e = .returned (.tuple #[.int .i64 n, .nilIface]) ∧ Below w.heap.size w w' :=
  (Tryd.strconv_Atoi_ok s (by omega) n h w).mono fun e w' ⟨he, hw⟩ => ⟨he, by
    rcases hw with rfl | ⟨t, rfl⟩
    · exact Below.refl _ _
    · exact below_bytes _ _ _⟩
theorem at_bad (s : ByteArray) (hs : s.size ≤ 281474976710656) (h : ∀ u, Lib.atoiAll s.data.toList ≠ .ok u) (w : World) (hE : Env w) :
    Calls Tryd.prog 46 #[.string s] w (BadNum .i64 w) := by
  cases hr : Lib.atoiAll s.data.toList
  · rename_i u
    exact absurd hr (h u)
  · obtain ⟨tp, p, hv⟩ := hE.syn
    refine (Any.strconv_Atoi_syntax Tryd.laysC172 s hs hr (.iface tp p) w hv (Or.inr ⟨tp, p, rfl⟩)).mono ?_
    rintro e w' ⟨N, he, _, _, hb⟩
    exact ⟨0, N, he, hb⟩
  · obtain ⟨tp, p, hv⟩ := hE.rng
    refine (Any.strconv_Atoi_range Tryd.laysC172 s hs hr (.iface tp p) w hv (Or.inr ⟨tp, p, rfl⟩)).mono ?_
    rintro e w' ⟨N, he, _, _, hb⟩
    exact ⟨_, N, he, hb⟩
/-- What readPlain makes of the two parts of a text. -/
def partsB (d p : List UInt8) : Option Nat :=
  match Lib.parseUintB 64 d, Lib.atoiAll p with
  | .ok u, .ok n => some (ldexpB (floatOfInt .f64 u) n)
  | _, _ => none
def readPlainB (s : List UInt8) : Option Nat :=
  if s = [110, 97, 110] then some 9221120237041090561 else if s = [105, 110, 102] then some 9218868437227405312 else if s = [48] then some 0
  else if (Lib.cut s [112]).2.2 = true then partsB (Lib.cut s [112]).1 (Lib.cut s [112]).2.1 else none
def Gives (w : World) (r : Option Nat) (e : Ending) (w' : World) : Prop :=
  (match r with
   | some b => e = .returned (.float .f64 b)
   | none => e = .panicked [{ v := .iface 29 (.int .i64 10), recovered := false }]) ∧ Below w.heap.size w w'
set_option maxRecDepth 100000 in
set_option maxHeartbeats 400000 in
theorem rp_short (s : ByteArray) (h : s.data.toList = [110, 97, 110] ∨ s.data.toList = [105, 110, 102] ∨ s.data.toList = [48]) (w : World) :
    Calls Tryd.prog 38 #[.string s] w (Gives w (readPlainB s.data.toList)) := by
  have hs : s = ⟨s.data.toList.toArray⟩ := by simp
  have h27 := fb27
  rcases h with h | h | h
  · rw [h] at hs
    rw [h]
    subst hs
    have hp : readPlainB [110, 97, 110] = some 9221120237041090561 := rfl
    rw [hp]
    clear hp h
    go_enter Tryd.func38, Tryd.ntmps38
    go_wp2
    go_ret
    exact ⟨rfl, Below.refl _ _⟩
  · rw [h] at hs
    rw [h]
    subst hs
    have hp : readPlainB [105, 110, 102] = some 9218868437227405312 := rfl
    rw [hp]
    clear hp h
    go_enter Tryd.func38, Tryd.ntmps38
    go_wp2
    go_ret
    exact ⟨rfl, Below.refl _ _⟩
  · rw [h] at hs
    rw [h]
    subst hs
    have hp : readPlainB [48] = some 0 := rfl
    rw [hp]
    clear hp h
    go_enter Tryd.func38, Tryd.ntmps38
    go_wp2
    go_ret
    exact ⟨rfl, Below.refl _ _⟩
set_option maxRecDepth 100000 in
set_option maxHeartbeats 400000 in
theorem rp_bad1 (s : ByteArray) (l1 l2 : List UInt8) (w : World) (hE : Env w)
    (H : Hid (Calls Tryd.prog 44 #[.string s, .string ⟨#[112]⟩] w fun e w' => e = .returned (.tuple #[.string ⟨l1.toArray⟩, .string ⟨l2.toArray⟩, .bool true]) ∧ Below w.heap.size w w'))
    (e1 : (s.toList == [110, 97, 110]) = false) (e2 : (s.toList == [105, 110, 102]) = false) (e3 : (s.toList == [48]) = false)
    (hl1 : l1.length ≤ 281474976710656) (hu : ∀ u, Lib.parseUintB 64 l1 ≠ .ok u) :
    Calls Tryd.prog 38 #[.string s] w (Gives w (partsB l1 l2)) := by
  have hp : partsB l1 l2 = none := by
    unfold partsB
    cases hr : Lib.parseUintB 64 l1 with
    | ok u => exact absurd hr (hu u)
    | _ => rfl
  rw [hp]
  have HE := Lib.hid hE
  have HU := Lib.hid hu
  clear hp hu hE
  go_enter Tryd.func38, Tryd.ntmps38
  go_wp2_with fail
  refine H.out.mono ?_
  rintro e w1 ⟨rfl, hb⟩
  go_wp2_with fail
  refine (pu_bad ⟨l1.toArray⟩ (by simpa [ByteArray.size] using hl1) (by simpa using HU.out) _ (HE.out.below HE.out.big hb)).mono ?_
  rintro e w2 ⟨v, N, rfl, hb2⟩
  go_wp2
  exact ⟨rfl, rfl, hb.trans (hb2.mono hb.size)⟩
set_option maxRecDepth 100000 in
set_option maxHeartbeats 400000 in
theorem rp_bad2 (s : ByteArray) (l1 l2 : List UInt8) (w : World) (hE : Env w)
    (H : Hid (Calls Tryd.prog 44 #[.string s, .string ⟨#[112]⟩] w fun e w' => e = .returned (.tuple #[.string ⟨l1.toArray⟩, .string ⟨l2.toArray⟩, .bool true]) ∧ Below w.heap.size w w'))
    (e1 : (s.toList == [110, 97, 110]) = false) (e2 : (s.toList == [105, 110, 102]) = false) (e3 : (s.toList == [48]) = false)
    (hl1 : l1.length ≤ 281474976710656) (hl2 : l2.length ≤ 281474976710656) (u : Nat) (hu : Lib.parseUintB 64 l1 = .ok u) (hn : ∀ n, Lib.atoiAll l2 ≠ .ok n) :
    Calls Tryd.prog 38 #[.string s] w (Gives w (partsB l1 l2)) := by
  have hp : partsB l1 l2 = none := by
    unfold partsB
    rw [hu]
    cases hr : Lib.atoiAll l2 with
    | ok u => exact absurd hr (hn u)
    | _ => rfl
  rw [hp]
  have HE := Lib.hid hE
  have HU := Lib.hid hu
  have HN := Lib.hid hn
  clear hp hu hE hn
  go_enter Tryd.func38, Tryd.ntmps38
  go_wp2_with fail
  refine H.out.mono ?_
  rintro e w1 ⟨rfl, hb⟩
  go_wp2_with fail
  refine (pu_ok ⟨l1.toArray⟩ (by simpa [ByteArray.size] using hl1) u (by simpa using HU.out) _).mono ?_
  rintro e w2 ⟨rfl, hb2⟩
  go_wp2_with fail
  have hb3 := hb.trans (hb2.mono hb.size)
  refine (at_bad ⟨l2.toArray⟩ (by simpa [ByteArray.size] using hl2) (by simpa using HN.out) _ (HE.out.below HE.out.big hb3)).mono ?_
  rintro e w3 ⟨v, N, rfl, hb4⟩
  go_wp2
  exact ⟨rfl, rfl, hb3.trans (hb4.mono hb3.size)⟩
set_option maxRecDepth 100000 in
set_option maxHeartbeats 400000 in
theorem rp_long (s : ByteArray) (hs : s.size ≤ 281474976710656) (h1 : s.data.toList ≠ [110, 97, 110]) (h2 : s.data.toList ≠ [105, 110, 102]) (h3 : s.data.toList ≠ [48]) (w : World) (hE : Env w) :
    Calls Tryd.prog 38 #[.string s] w (Gives w (readPlainB s.data.toList)) := by
  have e1 : (s.toList == [110, 97, 110]) = false := by rw [Lib.toList_data]; simpa using h1
  have e2 : (s.toList == [105, 110, 102]) = false := by rw [Lib.toList_data]; simpa using h2
  have e3 : (s.toList == [48]) = false := by rw [Lib.toList_data]; simpa using h3
  have hR : readPlainB s.data.toList = if (Lib.cut s.data.toList [112]).2.2 = true then partsB (Lib.cut s.data.toList [112]).1 (Lib.cut s.data.toList [112]).2.1 else none := by
    unfold readPlainB; rw [if_neg h1, if_neg h2, if_neg h3]
  have hc := cut_any s (by omega) w
  have hl1 : (Lib.cut s.data.toList [112]).1.length ≤ 281474976710656 := by
    have : s.data.toList.length = s.size := rfl
    unfold Lib.cut; split <;> simp <;> omega
  have hl2 : (Lib.cut s.data.toList [112]).2.1.length ≤ 281474976710656 := by
    have : s.data.toList.length = s.size := rfl
    unfold Lib.cut; split <;> simp <;> omega
  rw [hR]
  clear hR h1 h2 h3
  generalize (Lib.cut s.data.toList [112]).1 = l1 at *
  generalize (Lib.cut s.data.toList [112]).2.1 = l2 at *
  generalize hl3 : (Lib.cut s.data.toList [112]).2.2 = l3 at *
  clear hl3
  have H := Lib.hid hc
  have HE := Lib.hid hE
  clear hc hE
  cases l3 with
  | false =>
    rw [if_neg (by simp)]
    go_enter Tryd.func38, Tryd.ntmps38
    go_wp2_with fail
    refine H.out.mono ?_
    rintro e w1 ⟨rfl, hb⟩
    go_wp2
    exact ⟨rfl, rfl, hb⟩
  | true =>
    rw [if_pos rfl]
    cases hu : Lib.parseUintB 64 l1
    · rename_i u
      have hult : u < 18446744073709551616 := by have := Lib.parseUintB_le hu; omega
      cases hn : Lib.atoiAll l2
      · rename_i n
        have hp : partsB l1 l2 = some (ldexpB (floatOfInt .f64 u) n) := by unfold partsB; rw [hu, hn]
        rw [hp]
        have HU := Lib.hid hu
        have HN := Lib.hid hn
        have HF := Lib.hid (float_u64 u hult)
        clear hp hu hn hult
        go_enter Tryd.func38, Tryd.ntmps38
        go_wp2_with fail
        refine H.out.mono ?_
        rintro e w1 ⟨rfl, hb⟩
        go_wp2_with fail
        refine (pu_ok ⟨l1.toArray⟩ (by simpa [ByteArray.size] using hl1) u (by simpa using HU.out) _).mono ?_
        rintro e w2 ⟨rfl, hb2⟩
        go_wp2_with fail
        refine (at_ok ⟨l2.toArray⟩ (by simpa [ByteArray.size] using hl2) n (by simpa using HN.out) _).mono ?_
        rintro e w3 ⟨rfl, hb3⟩
        go_wp2_with fail
        refine (ldexp_pub _ HF.out.2 HF.out.1 n _).mono ?_
        rintro e w' ⟨rfl, rfl⟩
        go_wp2
        go_ret
        exact ⟨rfl, hb.trans ((hb2.mono hb.size).trans (hb3.mono (by have := hb.size; have := hb2.size; omega)))⟩
      · exact rp_bad2 s l1 l2 w HE.out H e1 e2 e3 hl1 hl2 u hu (by rw [hn]; intro n; simp)
      · exact rp_bad2 s l1 l2 w HE.out H e1 e2 e3 hl1 hl2 u hu (by rw [hn]; intro n; simp)
    · exact rp_bad1 s l1 l2 w HE.out H e1 e2 e3 hl1 (by rw [hu]; intro n; simp)
    · exact rp_bad1 s l1 l2 w HE.out H e1 e2 e3 hl1 (by rw [hu]; intro n; simp)
theorem rp_any (s : ByteArray) (hs : s.size ≤ 281474976710656) (w : World) (hE : Env w) :
    Calls Tryd.prog 38 #[.string s] w (Gives w (readPlainB s.data.toList)) := by
  by_cases h1 : s.data.toList = [110, 97, 110]
  · exact rp_short s (Or.inl h1) w
  by_cases h2 : s.data.toList = [105, 110, 102]
  · exact rp_short s (Or.inr (Or.inl h2)) w
  by_cases h3 : s.data.toList = [48]
  · exact rp_short s (Or.inr (Or.inr h3)) w
  exact rp_long s hs h1 h2 h3 w hE
theorem ldexpB_lt (x : Nat) (p : Int) : ldexpB x p < 9223372036854775808 := by
  unfold ldexpB
  split
  · omega
  split
  · omega
  split
  · omega
  split
  · have := mul_le 4368491638549381120 (wordB x (qB x p + 53 + 1023)) (by omega) (word_fin _ _ (by omega) (by omega))
    unfold mulB; omega
  · have := mul_le 4607182418800017408 (wordB x (qB x p + 1023)) (by omega) (word_fin _ _ (by omega) (by omega))
    unfold mulB; omega
theorem readPlainB_lt {l : List UInt8} {b : Nat} (h : readPlainB l = some b) : b < 9223372036854775808 := by
  unfold readPlainB at h
  split at h
  · cases h; omega
  split at h
  · cases h; omega
  split at h
  · cases h; omega
  split at h
  · unfold partsB at h
    split at h
    · cases h
      exact ldexpB_lt _ _
    · cases h
  · cases h

/- read. -/
def readB (s : List UInt8) : Option Nat :=
  match readPlainB (Lib.trimPrefix s [45]) with
  | some b =>
    let f := if Lib.hasPrefix s [45] = true then negB b else b
    if printB f = s then some (canonB f) else none
  | none => none
set_option maxRecDepth 100000 in
set_option maxHeartbeats 400000 in
theorem read_bad (s : ByteArray) (hs : s.size ≤ 281474976710656) (h : readPlainB (Lib.trimPrefix s.data.toList [45]) = none) (w : World) (hE : Env w) :
    Calls Tryd.prog 29 #[.string s] w (Gives w none) := by
  have hc := Tryd.strings_CutPrefix s ⟨#[45]⟩ w
  have hl : (Lib.trimPrefix s.data.toList [45]).length ≤ 281474976710656 := by
    have := Lib.trimPrefix_le s.data.toList [45]
    have h2 : s.data.toList.length = s.size := rfl
    omega
  have e0 : (⟨#[45]⟩ : ByteArray).data.toList = [45] := rfl
  rw [e0] at hc
  generalize Lib.trimPrefix s.data.toList [45] = l at *
  generalize Lib.hasPrefix s.data.toList [45] = k at *
  have hr := rp_any ⟨l.toArray⟩ (by simpa [ByteArray.size] using hl) w hE
  have e : readPlainB (⟨l.toArray⟩ : ByteArray).data.toList = none := by simpa using h
  rw [e] at hr
  have HC := Lib.hid hc
  have HR := Lib.hid hr
  clear hc hr e e0 h hE
  go_enter Tryd.func29, Tryd.ntmps29
  go_wp2_with fail
  refine HC.out.mono ?_
  rintro e w' ⟨rfl, rfl⟩
  go_wp2_with fail
  refine HR.out.mono ?_
  rintro e w1 ⟨rfl, hb⟩
  go_wp2
  exact ⟨rfl, rfl, hb⟩
theorem printB_len (b : Nat) (hb : b < 18446744073709551616) : (printB b).length ≤ 43 := by
  unfold printB
  split
  · simp
  split
  · simp
  split
  · simp
  rename_i h1 h2 h3
  have hf := fin_of hb (by simpa using h1) (by simpa using h2) (by simpa using h3)
  split
  · rename_i h4
    have := plainB_len (b := negB b) (by unfold negB; rw [if_pos h4]; unfold topB at h4; simp at h4; omega)
    simp; omega
  · rename_i h4
    have := plainB_len (b := b) (by unfold topB at h4; simp at h4; omega)
    omega
set_option maxRecDepth 100000 in
set_option maxHeartbeats 400000 in
theorem read_fit (s : ByteArray) (hs : s.size ≤ 281474976710656) (b f : Nat) (h : readPlainB (Lib.trimPrefix s.data.toList [45]) = some b)
    (hf : (if Lib.hasPrefix s.data.toList [45] = true then negB b else b) = f) (w : World) (hE : Env w) :
    Calls Tryd.prog 29 #[.string s] w (Gives w (if printB f = s.data.toList then some (canonB f) else none)) := by
  have hb := readPlainB_lt h
  have hc := Tryd.strings_CutPrefix s ⟨#[45]⟩ w
  have hl : (Lib.trimPrefix s.data.toList [45]).length ≤ 281474976710656 := by
    have := Lib.trimPrefix_le s.data.toList [45]
    have h2 : s.data.toList.length = s.size := rfl
    omega
  have e0 : (⟨#[45]⟩ : ByteArray).data.toList = [45] := rfl
  rw [e0] at hc
  generalize Lib.trimPrefix s.data.toList [45] = l at *
  generalize Lib.hasPrefix s.data.toList [45] = k at *
  have hr := rp_any ⟨l.toArray⟩ (by simpa [ByteArray.size] using hl) w hE
  have e : readPlainB (⟨l.toArray⟩ : ByteArray).data.toList = some b := by simpa using h
  rw [e] at hr
  have hn := fun w => run_neg b (by omega) w
  have hfl : f < 18446744073709551616 := by subst hf; split <;> first | exact neg_lt (by omega) | omega
  have hP := fun w hE => print_any f hfl w hE
  have HC := Lib.hid hc
  have HR := Lib.hid hr
  have HP := Lib.hid hP
  have HE := Lib.hid hE
  clear hc hr e e0 h hE hfl hb hs hP
  have hq1 : printB f = s.data.toList → (if printB f = s.data.toList then some (canonB f) else none) = some (canonB f) := fun h => if_pos h
  have hq2 : printB f ≠ s.data.toList → (if printB f = s.data.toList then some (canonB f) else none) = none := fun h => if_neg h
  generalize (if printB f = s.data.toList then some (canonB f) else none) = R at *
  have Q1 := Lib.hid hq1
  have Q2 := Lib.hid hq2
  clear hq1 hq2
  generalize printB f = pf at *
  have fin1 : ∀ w w1 w2 : World, Below w.heap.size w w1 → Below w1.heap.size w1 w2 → (!pf == s.toList) = true → Gives w R (.panicked [{ v := .iface 29 (.int .i64 10), recovered := false }]) w2 := fun w w1 w2 h1 h2 h => by
    rw [Q2.out (by rw [Lib.toList_data] at h; simpa using h)]
    exact ⟨rfl, h1.trans (h2.mono h1.size)⟩
  have fin2 : ∀ w w1 w2 : World, Below w.heap.size w w1 → Below w1.heap.size w1 w2 → (!pf == s.toList) = false → Gives w R (.returned (.float .f64 (canonB f))) w2 := fun w w1 w2 h1 h2 h => by
    rw [Q1.out (by rw [Lib.toList_data] at h; simpa using h)]
    exact ⟨rfl, h1.trans (h2.mono h1.size)⟩
  have F1 := Lib.hid fin1
  have F2 := Lib.hid fin2
  clear fin1 fin2
  cases k with
  | true =>
    have hf' : negB b = f := by simpa using hf
    rw [hf'] at hn
    clear hf hf'
    go_enter Tryd.func29, Tryd.ntmps29
    go_wp2_with fail
    refine HC.out.mono ?_
    rintro e w' ⟨rfl, rfl⟩
    go_wp2_with fail
    refine HR.out.mono ?_
    rintro e w1 ⟨rfl, hb1⟩
    go_wp2_with fail
    refine (HP.out _ (HE.out.below HE.out.big hb1)).mono ?_
    rintro e w2 ⟨rfl, hb2⟩
    go_wp2_with fail
    · have h : (!pf == s.toList) = true := by assumption
      exact ⟨rfl, F1.out _ _ _ hb1 hb2 h⟩
    · have h : (!pf == s.toList) = false := by assumption
      refine (canon_any f _).mono ?_
      rintro e w' ⟨rfl, rfl⟩
      go_wp2
      go_ret
      exact F2.out _ _ _ hb1 hb2 h
  | false =>
    have hf' : b = f := by simpa using hf
    subst hf'
    clear hf hn
    go_enter Tryd.func29, Tryd.ntmps29
    go_wp2_with fail
    refine HC.out.mono ?_
    rintro e w' ⟨rfl, rfl⟩
    go_wp2_with fail
    refine HR.out.mono ?_
    rintro e w1 ⟨rfl, hb1⟩
    go_wp2_with fail
    refine (HP.out _ (HE.out.below HE.out.big hb1)).mono ?_
    rintro e w2 ⟨rfl, hb2⟩
    go_wp2_with fail
    · have h : (!pf == s.toList) = true := by assumption
      exact ⟨rfl, F1.out _ _ _ hb1 hb2 h⟩
    · have h : (!pf == s.toList) = false := by assumption
      refine (canon_any b _).mono ?_
      rintro e w' ⟨rfl, rfl⟩
      go_wp2
      go_ret
      exact F2.out _ _ _ hb1 hb2 h
theorem read_any (s : ByteArray) (hs : s.size ≤ 281474976710656) (w : World) (hE : Env w) :
    Calls Tryd.prog 29 #[.string s] w (Gives w (readB s.data.toList)) := by
  unfold readB
  cases h : readPlainB (Lib.trimPrefix s.data.toList [45]) with
  | none => exact read_bad s hs h w hE
  | some b => exact read_fit s hs b _ h rfl w hE
end Go.Proofs.YtgppadnbfggkcaaDoor
