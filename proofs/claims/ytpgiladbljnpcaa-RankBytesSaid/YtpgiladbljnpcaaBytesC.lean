/-
  Bytes that compare as keys do: plain. gangerref00.Same.
-/
import Derived.Test.YtpgiladbljnpcaaBytesB
import Derived.Laws.BytesArg
namespace Go.Proofs.Ytpgiladbljnpcaa
open Go.ChangeShapes Go.WideShapes Go.ChangeAt Go.RowKit Go.Lib Go.Sort Go.Maps
set_option linter.unusedVariables false

def toB (l : List Int) : List UInt8 := l.map fun n => UInt8.ofNat n.toNat
theorem toB_app (a b : List Int) : toB (a ++ b) = toB a ++ toB b := by simp [toB]
theorem bigL_succ (n : Int) (s : Nat) : bigL n (s + 1) = n / 2 ^ (8 * s) % 256 :: bigL n s := by
  unfold bigL
  rw [List.range_succ_eq_map, List.map_cons, List.map_map]
  have e : byteAt n (s + 1) 0 = n / 2 ^ (8 * s) % 256 := by unfold byteAt; rw [show s + 1 - 1 - 0 = s by omega]
  rw [e]
  congr 1
  apply List.map_congr_left
  intro i hi
  simp only [Function.comp, byteAt]
  rw [show s + 1 - 1 - (i + 1) = s - 1 - i by omega]

theorem less_big (n m : Nat) (X Y : List UInt8) (s : Nat) :
    Op.bytesLess (toB (bigL n s) ++ X) (toB (bigL m s) ++ Y) = (decide (n % 2 ^ (8 * s) < m % 2 ^ (8 * s)) || (decide (n % 2 ^ (8 * s) = m % 2 ^ (8 * s)) && Op.bytesLess X Y)) := by
  induction s with
  | zero => simp [bigL, toB, Nat.mod_one]
  | succ s ih =>
    have hn : n % 2 ^ (8 * (s + 1)) = (n / 2 ^ (8 * s) % 256) * 2 ^ (8 * s) + n % 2 ^ (8 * s) := by
      rw [show 8 * (s + 1) = 8 * s + 8 by omega, Nat.pow_add, Nat.mod_mul, show (2 : Nat) ^ 8 = 256 from rfl, Nat.mul_comm (2 ^ (8 * s)) (_ % 256), Nat.add_comm]
    have hm : m % 2 ^ (8 * (s + 1)) = (m / 2 ^ (8 * s) % 256) * 2 ^ (8 * s) + m % 2 ^ (8 * s) := by
      rw [show 8 * (s + 1) = 8 * s + 8 by omega, Nat.pow_add, Nat.mod_mul, show (2 : Nat) ^ 8 = 256 from rfl, Nat.mul_comm (2 ^ (8 * s)) (_ % 256), Nat.add_comm]
    rw [hn, hm, bigL_succ, bigL_succ]
    have c1 : (((n : Int) / 2 ^ (8 * s) % 256).toNat) = n / 2 ^ (8 * s) % 256 := by
      have : ((n : Int) / 2 ^ (8 * s) % 256) = ((n / 2 ^ (8 * s) % 256 : Nat) : Int) := by simp
      rw [this, Int.toNat_natCast]
    have c2 : (((m : Int) / 2 ^ (8 * s) % 256).toNat) = m / 2 ^ (8 * s) % 256 := by
      have : ((m : Int) / 2 ^ (8 * s) % 256) = ((m / 2 ^ (8 * s) % 256 : Nat) : Int) := by simp
      rw [this, Int.toNat_natCast]
    unfold toB at *
    rw [List.map_cons, List.map_cons, List.cons_append, List.cons_append, c1, c2]
    have lx : n / 2 ^ (8 * s) % 256 < 256 := Nat.mod_lt _ (by decide)
    have ly : m / 2 ^ (8 * s) % 256 < 256 := Nat.mod_lt _ (by decide)
    have rn : n % 2 ^ (8 * s) < 2 ^ (8 * s) := Nat.mod_lt _ (Nat.two_pow_pos _)
    have rm : m % 2 ^ (8 * s) < 2 ^ (8 * s) := Nat.mod_lt _ (Nat.two_pow_pos _)
    show (decide (UInt8.ofNat _ < UInt8.ofNat _) || (UInt8.ofNat _ == UInt8.ofNat _ && Op.bytesLess _ _)) = _
    rw [ih]
    generalize n / 2 ^ (8 * s) % 256 = x at *
    generalize m / 2 ^ (8 * s) % 256 = y at *
    generalize n % 2 ^ (8 * s) = a at *
    generalize m % 2 ^ (8 * s) = b at *
    generalize 2 ^ (8 * s) = K at *
    generalize Op.bytesLess X Y = t
    have h1 : (UInt8.ofNat x < UInt8.ofNat y) ↔ x < y := by
      rw [UInt8.lt_iff_toNat_lt]; simp [Nat.mod_eq_of_lt lx, Nat.mod_eq_of_lt ly]
    have h2 : (UInt8.ofNat x = UInt8.ofNat y) ↔ x = y := by
      rw [← UInt8.toNat_inj]; simp [Nat.mod_eq_of_lt lx, Nat.mod_eq_of_lt ly]
    rcases Nat.lt_trichotomy x y with q | q | q
    · have e1 : x * K + a < y * K + b := by
        have : (x + 1) * K ≤ y * K := Nat.mul_le_mul_right K q
        rw [Nat.add_mul] at this; omega
      simp [h1, q, e1]
    · subst q
      simp
    · have e1 : y * K + b < x * K + a := by
        have : (y + 1) * K ≤ x * K := Nat.mul_le_mul_right K q
        rw [Nat.add_mul] at this; omega
      simp [h1, h2, show ¬ x < y by omega, show ¬ x = y by omega, show ¬ x * K + a < y * K + b by omega, show ¬ x * K + a = y * K + b by omega]

theorem less_bytes (p t : Int) (i : Nat) (p' t' : Int) (i' : Nat) (hp : -9223372036854775808 ≤ p ∧ p ≤ 9223372036854775807) (ht : -9223372036854775808 ≤ t ∧ t ≤ 9223372036854775807) (hi : i ≤ 4294967295)
    (hp' : -9223372036854775808 ≤ p' ∧ p' ≤ 9223372036854775807) (ht' : -9223372036854775808 ≤ t' ∧ t' ≤ 9223372036854775807) (hi' : i' ≤ 4294967295) :
    Op.bytesLess (toB (bytesK p t i)) (toB (bytesK p' t' i')) = kLess (p, t, i) (p', t', i') := by
  have h := less_big i i' [] [] 4
  have a : i % 2 ^ (8 * 4) = i := Nat.mod_eq_of_lt (by omega)
  have a' : i' % 2 ^ (8 * 4) = i' := Nat.mod_eq_of_lt (by omega)
  have b : low t % 2 ^ (8 * 8) = low t := Nat.mod_eq_of_lt (by unfold low; omega)
  have b' : low t' % 2 ^ (8 * 8) = low t' := Nat.mod_eq_of_lt (by unfold low; omega)
  have c : high p % 2 ^ (8 * 8) = high p := Nat.mod_eq_of_lt (by unfold high; omega)
  have c' : high p' % 2 ^ (8 * 8) = high p' := Nat.mod_eq_of_lt (by unfold high; omega)
  rw [a, a', List.append_nil, List.append_nil] at h
  unfold bytesK
  rw [toB_app, toB_app, toB_app, toB_app, List.append_assoc, List.append_assoc, less_big, less_big, h, b, b', c, c']
  rw [Bool.eq_iff_iff, lessB_iff]
  have e1 : high p < high p' ↔ p' < p := by unfold high; omega
  have e2 : high p = high p' ↔ p' = p := by unfold high; omega
  have e3 : low t < low t' ↔ t < t' := by unfold low; omega
  have e4 : low t = low t' ↔ t = t' := by unfold low; omega
  simp [e1, e2, e3, e4, Op.bytesLess]

theorem bytesLess_irrefl (l : List UInt8) : Op.bytesLess l l = false := by
  induction l with
  | nil => rfl
  | cons a l ih => simp [Op.bytesLess, ih]

theorem same_bytes (p t : Int) (i : Nat) (p' t' : Int) (i' : Nat) (hp : -9223372036854775808 ≤ p ∧ p ≤ 9223372036854775807) (ht : -9223372036854775808 ≤ t ∧ t ≤ 9223372036854775807) (hi : i ≤ 4294967295)
    (hp' : -9223372036854775808 ≤ p' ∧ p' ≤ 9223372036854775807) (ht' : -9223372036854775808 ≤ t' ∧ t' ≤ 9223372036854775807) (hi' : i' ≤ 4294967295) :
    (toB (bytesK p t i) == toB (bytesK p' t' i')) = decide (((p, t, (i : Int)) : Key) = (p', t', (i' : Int))) := by
  by_cases e : ((p, t, (i : Int)) : Key) = (p', t', (i' : Int))
  · rw [decide_eq_true e]
    simp only [Prod.mk.injEq, Int.natCast_inj] at e
    obtain ⟨rfl, rfl, rfl⟩ := e
    simp
  · rw [decide_eq_false e]
    have h1 := less_bytes p t i p' t' i' hp ht hi hp' ht' hi'
    have h2 := less_bytes p' t' i' p t i hp' ht' hi' hp ht hi
    rw [beq_eq_false_iff_ne]
    intro q
    rw [q] at h1 h2
    rw [bytesLess_irrefl] at h1 h2
    exact e (totK _ _ h1.symm h2.symm)

theorem strOf_list (xs : List Int) : (strOfNums xs).toList = toB xs := by
  rw [ByteArray.toList_eq, strOfNums_data]; rfl
theorem cellsB_get {l : List Int} {i : Nat} (h : i < l.length) : (cellsB l)[i]? = some (.int .u8 (l.getD i 0)) := by
  simp [cellsB, List.getElem?_eq_getElem h, List.getD]

/-- string(b) at a row of the call's own. -/
theorem conv_own {w : World} {base n : Nat} {v : Value} {l : List Int} (h : w.ownsRow base 5 1 v n (cellsB l)) :
    ∀ dst, Try.prog.underlying dst = some .string → (convert 48 dst v).run Try.prog w = .ok (.string (strOfNums l)) w := by
  have hl : l.length = n := by have := h.1; simpa [cellsB] using this
  obtain ⟨hlen, ⟨rfl, rfl⟩ | ⟨g, cap, cur, rfl, hb, hg, hnc, hcm, hcs, htake⟩⟩ := h
  · have : l = [] := List.eq_nil_of_length_eq_zero hl
    subst this
    exact run_convert_bytes_nil w 48 5 Try.underlying48 Try.underlying5 0 0
  · refine run_convert_bytes_arg w 48 5 Try.underlying48 Try.underlying5 g 0 n cap l hl ?_
    intro i hi
    rw [cell_of_row w g (0 + i) cur 5 (0, 0) hg, Nat.zero_add, ← cellsB_get (by omega), ← htake, Nat.mul_one, List.getElem?_take, if_pos hi]
    simp

set_option maxRecDepth 100000 in
theorem bytesSame_any (b1 b2 n1 n2 : Nat) (v1 v2 : Value) (l1 l2 : List Int) (w : World) (h1 : w.ownsRow b1 5 1 v1 n1 (cellsB l1)) (h2 : w.ownsRow b2 5 1 v2 n2 (cellsB l2)) :
    Calls Try.prog 27 #[v1, v2] w fun e w' => e = .returned (.bool (toB l1 == toB l2)) ∧ w' = w := by
  have c1 := conv_own h1 9 Try.underlying9
  have c2 := conv_own h2 9 Try.underlying9
  rw [← strOf_list, ← strOf_list]
  clear h1 h2
  generalize strOfNums l1 = s1 at *
  generalize strOfNums l2 = s2 at *
  go_enter Try.func27, Try.ntmps27
  go_wp2_with fail
  go_ret
  exact ⟨rfl, rfl⟩
end Go.Proofs.Ytpgiladbljnpcaa
