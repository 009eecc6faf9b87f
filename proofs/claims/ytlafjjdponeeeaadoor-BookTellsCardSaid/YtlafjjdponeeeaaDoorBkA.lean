/-
  book.number, hows, howOf: at any text.
-/
import Derived.Test.YtlafjjdponeeeaaDoorDgA
import Derived.Test.YtlafjjdponeeeaaDoorBkP
import Derived.Test.YtlafjjdponeeeaaDoorMem
import Derived.Test.YtlafjjdponeeeaaDoorShelf
import Derived.Handy
namespace Go.Proofs.YtlafjjdponeeeaaDoor
open Go Go.RowKit Go.Lib
set_option linter.unusedVariables false

theorem numberBk_any (s : ByteArray) (w : World) (hs : s.size ≤ 9223372036854775807) :
    Calls Tryd.prog 26 #[.string s] w fun e w' => e = .returned (numR (numP s.data.toList)) ∧ Below w.heap.size w w' := by
  have HN := Lib.hid (fun w => plain_any s 13 w hs (by omega))
  obtain ⟨av, bv, hab⟩ := numR_form (numP s.data.toList)
  unfold numP at *
  rw [hab] at HN ⊢
  clear hab
  go_enter Tryd.func26, Tryd.ntmps26
  go_wp2_with fail
  refine (HN.out _).mono ?_; rintro e w1 ⟨rfl, b1⟩
  go_wp2_with fail
  go_returns
  exact ⟨rfl, b1⟩

def howL : List ByteArray := [⟨#[114, 101, 113, 117, 101, 117, 101, 100]⟩, ⟨#[]⟩, ⟨#[]⟩, ⟨#[]⟩, ⟨#[]⟩, ⟨#[100, 111, 110, 101]⟩, ⟨#[102, 97, 105, 108, 101, 100]⟩, ⟨#[99, 97, 110, 99, 101, 108, 108, 101, 100]⟩, ⟨#[108, 97, 116, 101]⟩]
abbrev howVs : Array Value := #[.string ⟨#[114, 101, 113, 117, 101, 117, 101, 100]⟩, .string ⟨#[]⟩, .string ⟨#[]⟩, .string ⟨#[]⟩, .string ⟨#[]⟩, .string ⟨#[100, 111, 110, 101]⟩, .string ⟨#[102, 97, 105, 108, 101, 100]⟩, .string ⟨#[99, 97, 110, 99, 101, 108, 108, 101, 100]⟩, .string ⟨#[108, 97, 116, 101]⟩]
theorem howW_data (x : ByteArray) : howW x.data.toList = if x = ⟨#[114, 101, 113, 117, 101, 117, 101, 100]⟩ then some 0 else if x = ⟨#[100, 111, 110, 101]⟩ then some 5 else if x = ⟨#[102, 97, 105, 108, 101, 100]⟩ then some 6 else if x = ⟨#[99, 97, 110, 99, 101, 108, 108, 101, 100]⟩ then some 7 else if x = ⟨#[108, 97, 116, 101]⟩ then some 8 else none := by
  have key : ∀ (a : Array UInt8) (l : Bs), a.toList = l → ((x.data.toList = l) = (x = ⟨a⟩)) := fun a l h => by
    rw [← h]; exact propext ⟨fun e => ByteArray.ext (Array.toList_inj.1 e), fun e => by rw [e]⟩
  unfold howW
  simp only [key #[114, 101, 113, 117, 101, 117, 101, 100] (howT 0) rfl, key #[100, 111, 110, 101] (howT 5) rfl, key #[102, 97, 105, 108, 101, 100] (howT 6) rfl, key #[99, 97, 110, 99, 101, 108, 108, 101, 100] (howT 7) rfl, key #[108, 97, 116, 101] (howT 8) rfl]
/-- The word's place in the row of words; the empty text is no word. -/
theorem how_idx (x : ByteArray) : (∀ n, howW x.data.toList = some n → Lib.idxOfS howL x = n ∧ x ≠ ⟨#[]⟩) ∧ (howW x.data.toList = none → Lib.idxOfS howL x < 0 ∨ x = ⟨#[]⟩) := by
  rw [howW_data]
  constructor
  · intro n h
    repeat' split at h
    all_goals cases h
    all_goals (rename_i e; subst e; decide)
  · intro h
    repeat' split at h
    any_goals (cases h; done)
    rename_i h0 h5 h6 h7 h8
    by_cases he : x = ⟨#[]⟩
    · exact .inr he
    · refine .inl ?_
      have h0 := Ne.symm h0; have h5 := Ne.symm h5; have h6 := Ne.symm h6; have h7 := Ne.symm h7; have h8 := Ne.symm h8; have he := Ne.symm he
      unfold Lib.idxOfS howL
      simp only [Lib.idxFromS, if_neg h0, if_neg h5, if_neg h6, if_neg h7, if_neg h8, if_neg he]
      decide
theorem hows_any (w : World) : Calls Tryd.prog 23 #[] w fun e w' => e = .returned (.agg howVs) ∧ Below w.heap.size w w' := by
  have HB := Lib.hid ((Below.refl w.heap.size w).alloc (Nat.le_refl _) (.cells howVs 52))
  go_enter Tryd.func23, Tryd.ntmps23
  go_wp2_with fail
  go_returns
  exact ⟨rfl, HB.out⟩
theorem howOf_any (x : ByteArray) (w : World) :
    Calls Tryd.prog 27 #[.string x] w fun e w' => ∃ i : Int, e = .returned (.tuple #[.int .i64 i, .bool (howW x.data.toList).isSome]) ∧ (∀ n, howW x.data.toList = some n → i = n) ∧ Below w.heap.size w w' := by
  obtain ⟨h1, h2⟩ := how_idx x
  have H1 : Hid (∀ n, howW x.data.toList = some n → Lib.idxOfS howL x = n ∧ x ≠ ⟨#[]⟩) := h1
  have H2 : Hid (howW x.data.toList = none → Lib.idxOfS howL x < 0 ∨ x = ⟨#[]⟩) := h2
  clear h1 h2
  have HI : Hid (∀ b w', Blk w' b howVs 52 → Calls Tryd.prog 45 #[.slice (some ⟨b, 0, none⟩) 9 9, .string x] w' fun e w'' => e = .returned (.int .i64 (Lib.idxOfS howL x)) ∧ w'' = w') := fun b w' hb =>
    Tryd.slices_Index_string b 0 9 9 howL x w' (by decide) (by omega) (fun j hj => by
      have hj : j < 9 := hj
      have : j = 0 ∨ j = 1 ∨ j = 2 ∨ j = 3 ∨ j = 4 ∨ j = 5 ∨ j = 6 ∨ j = 7 ∨ j = 8 := by omega
      rcases this with rfl | rfl | rfl | rfl | rfl | rfl | rfl | rfl | rfl <;> exact hb.cell _)
  have HH := Lib.hid (fun w => hows_any w)
  generalize Lib.idxOfS howL x = I at *
  generalize howW x.data.toList = O at *
  go_enter Tryd.func27, Tryd.ntmps27
  go_wp2_with fail
  refine (HH.out _).mono ?_; rintro e w1 ⟨rfl, b1⟩
  have HB := Lib.hid (b1.alloc b1.size (.cells howVs 52))
  have HI1 := Lib.hid (HI.out w1.heap.size _ (Blk.new w1 howVs 52))
  clear b1 HI HH
  go_wp2_with fail
  refine HI1.out.mono ?_; rintro e w2 ⟨rfl, rfl⟩
  clear HI1
  cases O with
  | none =>
    rcases H2.out rfl with h | rfl
    · have t1 : decide (I ≥ 0) = false := decide_eq_false (by omega)
      have t2 : decide (0 ≤ I) = false := decide_eq_false (by omega)
      clear H1 H2
      go_wp2_with fail
      go_returns
      exact ⟨_, rfl, fun n h => (by cases h), HB.out⟩
    · clear H1 H2
      by_cases h : 0 ≤ I
      · have t1 : decide (I ≥ 0) = true := decide_eq_true h
        have t2 : decide (0 ≤ I) = true := decide_eq_true h
        go_wp2_with fail
        go_returns
        exact ⟨_, rfl, fun n h => (by cases h), HB.out⟩
      · have t1 : decide (I ≥ 0) = false := decide_eq_false h
        have t2 : decide (0 ≤ I) = false := decide_eq_false h
        go_wp2_with fail
        go_returns
        exact ⟨_, rfl, fun n h => (by cases h), HB.out⟩
  | some n =>
    obtain ⟨hi, hx⟩ := H1.out n rfl
    have t1 : decide (I ≥ 0) = true := decide_eq_true (by omega)
    have t2 : decide (0 ≤ I) = true := decide_eq_true (by omega)
    have t3 : x.toList.isEmpty = false := by
      rw [ByteArray.toList_eq]
      cases e : x.data.toList with
      | nil => exact absurd (ByteArray.ext (Array.toList_inj.1 e)) hx
      | cons a r => rfl
    have hi' := Lib.hid hi
    clear H1 H2 hi hx
    go_wp2_with fail
    go_returns
    exact ⟨_, rfl, fun m h => (by cases h; exact hi'.out), HB.out⟩
end Go.Proofs.YtlafjjdponeeeaaDoor
