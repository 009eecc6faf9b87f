/-
  script.isOfName, script.Name: at any text.
-/
import Derived.Test.YtbnlmeegepgioaaDoorShelf
import Derived.Test.YtbnlmeegepgioaaDoorShelf2
import Derived.Test.YtbnlmeegepgioaaDoorMem
import Derived.Test.YtbnlmeegepgioaaDoorNm
import Derived.WalkKit
import Derived.Lib.OthersKept
import Derived.Lib.Hide
namespace Go.Proofs.YtbnlmeegepgioaaDoor
open Go Go.RowKit Go.Lib
set_option linter.unusedVariables false

/-- The tables of package unicode/utf8. -/
abbrev U8W (w : World) : Prop := Lib.Utf8Tabs 2 3 w
theorem ret_bl {a b : Bool} (h : a = b) : Ending.returned (.bool a) = Ending.returned (.bool b) := by rw [h]
set_option maxHeartbeats 2000000 in
theorem isOfName_any (r : Nat) (w : World) (hr : r ≤ 1114111) :
    Calls Tryd.prog 70 #[.int .i32 r] w fun e w' => e = .returned (.bool (okR r)) ∧ w' = w := by
  have H : Hid (okR r = decide ((97 ≤ r ∧ r ≤ 122) ∨ (65 ≤ r ∧ r ≤ 90) ∨ (48 ≤ r ∧ r ≤ 57) ∨ r = 45 ∨ r = 95 ∨ r = 46 ∨ 160 < r)) := rfl
  generalize okR r = res at *
  go_enter Tryd.func70, Tryd.ntmps70
  go_wp2_with fail
  all_goals
    go_ret
    refine ⟨ret_bl ?_, rfl⟩
    rw [H.out, Bool.eq_iff_iff]
    simp only [beq_iff_eq, beq_eq_false_iff_ne, decide_eq_true_eq, true_iff] at *
    omega
theorem U8W.next {w w' : World} (h : U8W w) (hb : Below w.heap.size w w') : U8W w' := Utf8Tabs_below h hb
theorem okF_step (s : ByteArray) : ∀ f pos, okF s f pos = match f with | 0 => true | f + 1 => if pos < s.size then okR (Utf8.decode s pos).1 && okF s f (pos + (Utf8.decode s pos).2) else true := fun f pos => by cases f <;> rfl
set_option maxRecDepth 100000 in
set_option maxHeartbeats 4000000 in
theorem name_any (s : ByteArray) (w : World) (hs : s.size ≤ 4611686018427387904) (hT : U8W w) :
    Calls Tryd.prog 66 #[.string s] w fun e w' => e = .returned (.bool (nameB s)) ∧ Below w.heap.size w w' := by
  have HC : Hid (∀ w, Calls Tryd.prog 68 #[.string s] w fun e w' => e = .returned (.int .i64 (runeCount s)) ∧ Below w.heap.size w w') := fun w => by
    refine (Tryd.utf8_RuneCountInString s w (by omega)).mono ?_
    rintro e w' ⟨rfl, pos, rfl⟩
    exact ⟨rfl, (Below.refl _ _).alloc (Nat.le_refl _) _⟩
  have HV : Hid (∀ w', Below w.heap.size w w' → Calls Tryd.prog 69 #[.string s] w' fun e w'' => e = .returned (.bool (validD s.data.toList)) ∧ Below w'.heap.size w' w'') := fun w' hb => Any.utf8_ValidString Tryd.laysValid s w' (by omega) (hT.next hb)
  have hN : Hid (nameB s = (decide (1 ≤ runeCount s) && decide (runeCount s ≤ 32) && validD s.data.toList && okF s s.size 0)) := rfl
  have hle := runeCount_le s
  generalize nameB s = N at *
  generalize runeCount s = n at *
  generalize validD s.data.toList = V at *
  clear hT
  go_enter Tryd.func66, Tryd.ntmps66
  go_wp2_with fail
  refine (HC.out _).mono ?_; rintro e w1 ⟨rfl, b1⟩
  have B1 := Lib.hid b1
  clear b1 HC
  by_cases p1 : n < 1
  · have u1 : decide ((n : Int) < 1) = true := decide_eq_true (by omega)
    have u1n : decide (n < 1) = true := decide_eq_true p1
    have hr : Hid (N = false) := by unfold Hid; rw [hN.out, decide_eq_false (by omega)]; simp
    clear hN p1
    go_wp2_with fail
    go_ret
    exact ⟨ret_bl hr.out.symm, B1.out⟩
  have u1 : decide ((n : Int) < 1) = false := decide_eq_false (by omega)
  have u1n : decide (n < 1) = false := decide_eq_false p1
  by_cases p2 : 32 < n
  · have u2 : decide ((n : Int) > 32) = true := decide_eq_true (by omega)
    have u2n : decide (32 < n) = true := decide_eq_true p2
    have hr : Hid (N = false) := by unfold Hid; rw [hN.out, decide_eq_false (show ¬ n ≤ 32 by omega)]; simp
    clear hN p1 p2
    go_wp2_with fail
    go_ret
    exact ⟨ret_bl hr.out.symm, B1.out⟩
  have u2 : decide ((n : Int) > 32) = false := decide_eq_false (by omega)
  have u2n : decide (32 < n) = false := decide_eq_false p2
  have hN2 : Hid (N = (V && okF s s.size 0)) := by unfold Hid; rw [hN.out, decide_eq_true (show 1 ≤ n by omega), decide_eq_true (show n ≤ 32 by omega)]; simp
  clear hN p1 p2
  go_wp2_with fail
  refine (HV.out _ B1.out).mono ?_; rintro e w2 ⟨rfl, b2⟩
  have B2 := Lib.hid (below_next b2 B1.out)
  clear b2 B1 HV
  cases V
  · have hr : Hid (N = false) := by unfold Hid; rw [hN2.out]; rfl
    clear hN2
    go_wp2_with fail
    go_ret
    exact ⟨ret_bl hr.out.symm, B2.out⟩
  have hN3 : Hid (N = okF s s.size 0) := by unfold Hid; rw [hN2.out]; rfl
  clear hN2 u1 u1n u2 u2n
  go_wp2_with fail
  go_loopw [] (fun wr => ∃ f pos : Nat, s.size ≤ pos + f ∧ Hid (N = okF s f pos) ∧ wr.heap[w2.heap.size]? = some (.stringIter s pos) ∧ Below w.heap.size w wr) (fun wr => s.size - wr.iterPos w2.heap.size)
  case atStart => exact ⟨s.size, 0, by omega, hN3, by have := World.iter_heap w2 s 0; simpa using this, below_next ((Below.refl _ w2).alloc (Nat.le_refl _) _) B2.out⟩
  case round =>
    obtain ⟨f, pos, h1, hst, hit, hB⟩ := hrel
    have HB := Lib.hid hB
    have hst' := hst.out
    rw [okF_step] at hst'
    have hB2 := below_iterAt hB (k := w2.heap.size) B2.out.size s
    have hit2 := fun q => Lib.iterAt_heap wr w2.heap.size s pos q hit
    by_cases hp : pos < s.size
    · have hnx : ∀ ty, (Instr.next (.pointer (some ⟨w2.heap.size, 0, none⟩)) true ty).run Tryd.prog wr = _ := fun ty => Lib.run_next_any_at wr w2.heap.size s pos ty hit hp
      obtain ⟨f', rfl⟩ : ∃ f', f = f' + 1 := ⟨f - 1, by omega⟩
      dsimp only at hst'
      rw [if_pos hp] at hst'
      have hw := width_pos s pos
      have hd1 := rune_le s pos
      have HI := fun w' => isOfName_any (Utf8.decode s pos).1 w' hd1
      have hB3 := hB2 (pos + (Utf8.decode s pos).2)
      have hit3 := hit2 (pos + (Utf8.decode s pos).2)
      have HP : Hid (wr.iterPos w2.heap.size = pos) := by unfold Hid; simp only [World.iterPos, hit]
      clear hB hB2 hit2 hst
      generalize okR (Utf8.decode s pos).1 = O at *
      generalize hr : (Utf8.decode s pos).1 = r at *
      generalize hk : (Utf8.decode s pos).2 = k at *
      have HIH := Lib.hid HI
      have HST := Lib.hid hst'
      have HB3 := Lib.hid hB3
      have HIT3 := Lib.hid hit3
      have HIT := Lib.hid hit
      clear HI hst' hB3 hit3 hit hr hk
      go_wp2_with fail
      refine (HIH.out _).mono ?_; rintro e w4 ⟨rfl, rfl⟩
      clear HIH
      cases O
      · have hr : Hid (N = false) := by unfold Hid; rw [HST.out]; rfl
        clear HST
        go_wp2_with fail
        go_ret
        exact ⟨ret_bl hr.out.symm, HB3.out⟩
      · have hr : Hid (N = okF s f' (pos + k)) := by unfold Hid; rw [HST.out, Bool.true_and]
        clear HST
        go_wp2_with fail
        go_roundw
        case rel => exact ⟨f', pos + k, by omega, hr, HIT3.out, HB3.out⟩
        case measure =>
          have h3 := HIT3.out
          rw [HP.out]
          simp only [World.iterPos, h3]; omega
    · have hnx : ∀ ty, (Instr.next (.pointer (some ⟨w2.heap.size, 0, none⟩)) true ty).run Tryd.prog wr = _ := fun ty => Lib.run_next_end_at wr w2.heap.size s pos ty hit hp
      have hr : Hid (N = true) := by
        unfold Hid; rw [hst']
        cases f with
        | zero => rfl
        | succ f => dsimp only; rw [if_neg hp]
      clear hst hst' hB hB2 hit2
      go_wp2_with fail
      go_ret
      exact ⟨ret_bl hr.out.symm, HB.out⟩
end Go.Proofs.YtbnlmeegepgioaaDoor
