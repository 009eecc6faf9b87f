/-
  Layer 17: what a crate holds is got back: plainly.
-/
import Derived.Test.YtgohnidndjbjiaaCrateD
namespace Go.Proofs.Ytgohnidndjbjiaa
open Go Go.RowKit Go.Lib
set_option linter.unusedVariables false

theorem numB_le4 (s : Nat) (h : s < 4294967296) : numB (le4 s) = s := by
  have e : le4 s = [UInt8.ofNat (s / 2 ^ 0 % 256), UInt8.ofNat (s / 2 ^ 8 % 256), UInt8.ofNat (s / 2 ^ 16 % 256), UInt8.ofNat (s / 2 ^ 24 % 256)] := rfl
  rw [e]
  simp only [numB, UInt8.toNat_ofNat']
  omega
theorem putB_form (b rest : List UInt8) : putB b ++ rest = 197 :: UInt8.ofNat (b.length / 256) :: UInt8.ofNat (b.length % 256) :: (b ++ (le4 (sumB (hdr b.length ++ b)) ++ rest)) := by
  simp [putB, hdr]
theorem lenB_put (b rest : List UInt8) (h : b.length ≤ 8000) : lenB (putB b ++ rest) = b.length := by
  rw [putB_form]
  have e1 : (UInt8.ofNat (b.length / 256)).toNat = b.length / 256 := by rw [UInt8.toNat_ofNat']; omega
  have e2 : (UInt8.ofNat (b.length % 256)).toNat = b.length % 256 := by rw [UInt8.toNat_ofNat']; omega
  unfold lenB
  simp only [List.getD_cons_succ, List.getD_cons_zero, e1, e2]
  omega
theorem bodyB_put (b rest : List UInt8) (h : b.length ≤ 8000) : bodyB (putB b ++ rest) = b := by
  unfold bodyB
  rw [lenB_put b rest h, putB_form]
  exact List.take_left' rfl
theorem isB_put (b rest : List UInt8) (h : b.length ≤ 8000) : isB (putB b ++ rest) = true := by
  have hl := lenB_put b rest h
  have hlen : (putB b ++ rest).length = b.length + 7 + rest.length := by rw [List.length_append, putB_len]
  unfold isB
  rw [hl, hlen]
  have e1 : ((putB b ++ rest).drop 1).take (b.length + 2) = hdr b.length ++ b := by
    rw [putB_form]
    show (UInt8.ofNat (b.length / 256) :: UInt8.ofNat (b.length % 256) :: (b ++ _)).take (b.length + 2) = _
    rw [List.take_succ_cons, List.take_succ_cons, List.take_left' rfl]; rfl
  have e2 : ((putB b ++ rest).drop (b.length + 3)).take 4 = le4 (sumB (hdr b.length ++ b)) := by
    rw [putB_form]
    show ((b ++ _).drop b.length).take 4 = _
    rw [List.drop_left' rfl, List.take_left' (le4_len _)]
  rw [e1, e2, numB_le4 _ (sumB_lt _), putB_form]
  simp
  omega
theorem putB_head {a b : List UInt8} {r s : List UInt8} (ha : a.length ≤ 8000) (hb : b.length ≤ 8000) (h : putB a ++ r = putB b ++ s) : a = b := by
  rw [← bodyB_put a r ha, h, bodyB_put b s hb]
theorem putB_begins (a b : List UInt8) (ha : a.length ≤ 8000) (hb : b.length ≤ 8000) : (putB a == (putB b).take (a.length + 7)) = (a == b) := by
  rw [Bool.eq_iff_iff, beq_iff_eq, beq_iff_eq]
  constructor
  · intro h
    have h2 : putB a ++ (putB b).drop (a.length + 7) = putB b ++ [] := by rw [h, List.take_append_drop, List.append_nil]
    exact putB_head ha hb h2
  · rintro rfl
    rw [List.take_of_length_le (by rw [putB_len]; exact Nat.le_refl _)]
end Go.Proofs.Ytgohnidndjbjiaa
