/- Contracts: the reference's Encode; a slice of bytes as a string. -/
import Derived.Test.YtgppadnbfggkcaaG
import Derived.Test.YtgppadnbfggkcaaJ
namespace Go.Proofs.Ytgppadnbfggkcaa
open Go.RowKit

theorem nil_string (w : World) : (convert 23 9 (.slice none 0 0)).run Try.prog w = .ok (.string ⟨#[]⟩) w := by
  rw [run_convert_bytes_string w 23 9 5 none 0 0 Try.underlying23 Try.underlying5 Try.underlying9]
  rfl
theorem bytes_string {B : Nat} {w : World} {v : Value} {l : List UInt8} (h : BytesIn B w v l) : (convert 23 9 v).run Try.prog w = .ok (.string ⟨l.toArray⟩) w := by
  rcases h with ⟨rfl, rfl⟩ | ⟨a, cap, rfl, _, hc⟩
  · exact nil_string w
  · refine run_convert_bytes_back (P := Try.prog) w 23 9 5 a cap l Try.underlying23 Try.underlying5 Try.underlying9 (fun j hj => ?_)
    exact hc j _ (by unfold bv; rw [List.getElem?_map, List.getElem?_eq_getElem hj]; rfl)
def REncAnswers (w : World) (r : Except Int (List UInt8)) (e : Ending) (w' : World) : Prop :=
  match r with
  | .ok o => e = .returned (.tuple #[.string ⟨o.toArray⟩, .int .i64 0]) ∧ Below w.heap.size w w'
  | .error c => e = .returned (.tuple #[.string ⟨#[]⟩, .int .i64 c]) ∧ Below w.heap.size w w'
set_option maxRecDepth 100000 in
set_option maxHeartbeats 800000 in
theorem rencode_any (xv : Value) (x : Val) (w : World) (hR : Reads w.heap.size w 16 xv x) : Calls Try.prog 11 #[xv] w (REncAnswers w (encR x)) := by
  obtain ⟨k, u, b, f, l⟩ := x
  obtain ⟨a1, n1, p1, a2, n2, p2, rfl⟩ := hR.shape
  have hB2 : Below w.heap.size w ((w.alloc (.cells #[.int .i64 k, .int .u64 u, .slice a1 n1 p1, .float .f64 f, .slice a2 n2 p2] 27)).alloc (.cells #[] 5)) :=
    ((Below.refl _ _).alloc (Nat.le_refl _) _).alloc (by simp) _
  have hO : Own ((w.alloc (.cells #[.int .i64 k, .int .u64 u, .slice a1 n1 p1, .float .f64 f, .slice a2 n2 p2] 27)).alloc (.cells #[] 5)) w.heap.size (.slice (some ⟨w.heap.size + 1, 0, none⟩) 0 0) [] := by
    refine ⟨rfl, Or.inr ⟨w.heap.size + 1, 0, #[], rfl, by omega, ?_, Nat.le_refl _, by unfold maxLen; omega, rfl, rfl⟩⟩
    show ((w.heap.push _).push _)[w.heap.size + 1]? = _
    rw [Array.getElem?_push, if_pos (by simp)]
  have hw := rwrite_ok 16 w.heap.size _ _ _ [] 0 _ (by omega) (by simp) hB2.size hO (Reads.below hB2 16 _ _ hR)
  rw [show encV 16 [] (.mk k u b f l) = encR (.mk k u b f l) from rfl] at hw
  have HW := Lib.hid hw
  have HB := Lib.hid hB2
  have HO := Lib.hid hO
  have hst := run_storeF
  generalize encR (.mk k u b f l) = r at *
  clear hw hB2 hO hR
  cases r with
  | error c =>
    have hn := nil_string
    go_enter Try.func11, Try.ntmps11
    go_wp2_with fail
    refine HW.out.mono ?_
    rintro e w1 ⟨rfl, hb, hs⟩
    go_wp2_with fail
    go_ret2
    exact ⟨rfl, HB.out.trans hb⟩
  | ok o =>
    go_enter Try.func11, Try.ntmps11
    go_wp2_with fail
    refine HW.out.mono ?_
    rintro e w1 ⟨v', rfl, hown, hgr⟩
    have hb := HB.out.trans (hgr.below HO.out HB.out.size)
    · have hcv := bytes_string (own_bytes hown (Nat.le_refl _))
      obtain ⟨sa, sc, rfl⟩ := own_slice hown
      have HBB := Lib.hid hb
      clear hb hown hgr
      go_wp2_with fail
      go_ret2
      exact ⟨rfl, HBB.out⟩
end Go.Proofs.Ytgppadnbfggkcaa
