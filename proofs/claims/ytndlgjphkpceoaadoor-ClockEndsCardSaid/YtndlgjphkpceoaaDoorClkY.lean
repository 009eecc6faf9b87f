/-
  clock.Parse at texts that are put together from numbers.
-/
import Derived.Test.YtndlgjphkpceoaaDoorClkV
namespace Go.Proofs.YtndlgjphkpceoaaDoor
open Go Go.RowKit Go.Lib
set_option linter.unusedVariables false

def D (n : Nat) : Bs := Lib.decDigits n
theorem numW_D {n : Nat} (h : n < 1000000) : numW (D n) = some n := num_dec h
theorem D_len {n : Nat} (h : n < 1000000) : (D n).length ≤ 6 := decDigits_len 5 n (by simpa using h)
theorem f1 {m : Nat} (h : m < 1000000) : parseA (D m) = endA false (m * 60) := by
  rw [parse_eq]
  exact parse_form (ws := [D m]) (g := []) (ns := [m]) rfl (by simp) (by simp) (by simp [numW_D h])
theorem f2 {m s : Nat} (hm : m < 1000000) (hs : s < 1000000) : parseA (D m ++ 58 :: D s) = endA (decide (59 < s)) (m * 60 + s) := by
  rw [parse_eq]
  exact parse_form (ws := [D m, D s]) (g := [58]) (ns := [m, s]) rfl (by simp) (by decide) (by simp [numW_D hm, numW_D hs])
theorem f3 {h m s : Nat} (hh : h < 1000000) (hm : m < 1000000) (hs : s < 1000000) : parseA (D h ++ 58 :: (D m ++ 58 :: D s)) = endA (decide (59 < m) || decide (59 < s)) ((h * 60 + m) * 60 + s) := by
  rw [parse_eq]
  exact parse_form (ws := [D h, D m, D s]) (g := [58, 58]) (ns := [h, m, s]) rfl (by simp) (by decide) (by simp [numW_D hh, numW_D hm, numW_D hs])
theorem g1 {d h : Nat} (hd : d < 1000000) (hh : h < 1000000) : parseA (D d ++ 45 :: D h) = endA (decide (23 < h)) ((d * 24 + h) * 60 * 60) := by
  rw [parse_eq]
  exact parse_form (ws := [D d, D h]) (g := [45]) (ns := [d, h]) rfl (by simp) (by decide) (by simp [numW_D hd, numW_D hh])
theorem g2 {d h m : Nat} (hd : d < 1000000) (hh : h < 1000000) (hm : m < 1000000) : parseA (D d ++ 45 :: (D h ++ 58 :: D m)) = endA (decide (59 < m) || decide (23 < h)) (((d * 24 + h) * 60 + m) * 60) := by
  rw [parse_eq]
  exact parse_form (ws := [D d, D h, D m]) (g := [45, 58]) (ns := [d, h, m]) rfl (by simp) (by decide) (by simp [numW_D hd, numW_D hh, numW_D hm])
theorem g3 {d h m s : Nat} (hd : d < 1000000) (hh : h < 1000000) (hm : m < 1000000) (hs : s < 1000000) :
    parseA (D d ++ 45 :: (D h ++ 58 :: (D m ++ 58 :: D s))) = endA (decide (59 < m) || decide (23 < h) || decide (59 < s)) (((d * 24 + h) * 60 + m) * 60 + s) := by
  rw [parse_eq]
  exact parse_form (ws := [D d, D h, D m, D s]) (g := [45, 58, 58]) (ns := [d, h, m, s]) rfl (by simp) (by decide) (by simp [numW_D hd, numW_D hh, numW_D hm, numW_D hs])
theorem endA_yes {t : Nat} (h0 : 0 < t) (h1 : t ≤ 1073741824) : endA false t = ((t : Int), 0) := by unfold endA; rw [if_neg (by simp; omega)]
theorem endA_no (t : Nat) : endA true t = (0, 2) := by unfold endA; rw [if_pos (.inl rfl)]
theorem endA_nil : endA false 0 = (0, 2) := by unfold endA; rw [if_pos (.inr (.inl rfl))]

theorem parse_txt (t : ByteArray) (l : List UInt8) (r : Int × Int) (w : World) (ht : t = ⟨l.toArray⟩) (hl : l.length ≤ 1000) (hr : parseA l = r) (hE : Env7 w) :
    Calls Tryd.prog 11 #[.string t] w fun e w' => e = .returned (.tuple #[.int .i64 r.1, .int .i64 r.2]) ∧ Below w.heap.size w w' := by
  subst ht; exact parse_at l w r hl hr hE
theorem app_dig (a : List UInt8) (n : Nat) : (⟨a.toArray⟩ : ByteArray) ++ digS n = ⟨(a ++ D n).toArray⟩ := by apply ByteArray.ext; simp [digS, D]
theorem app_lit (a b : List UInt8) : (⟨a.toArray⟩ : ByteArray) ++ ⟨b.toArray⟩ = ⟨(a ++ b).toArray⟩ := by apply ByteArray.ext; simp
theorem digS_D (n : Nat) : digS n = ⟨(D n).toArray⟩ := rfl
end Go.Proofs.YtndlgjphkpceoaaDoor
