/-
  conf.within, areWeights, isNew: at any arguments; a set of names that the call makes.
-/
import Derived.Test.YtbnlmeegepgioaaDoorNmA
import Derived.Test.YtbnlmeegepgioaaDoorCf
import Derived.Test.YtbnlmeegepgioaaDoorChg
import Derived.Test.YtbnlmeegepgioaaDoorRwG
import Derived.Maps.OwnSet
import Derived.StringKeys
namespace Go.Proofs.YtbnlmeegepgioaaDoor
open Go Go.RowKit Go.Lib Go.Maps Go.WideShapes
set_option linter.unusedVariables false

theorem within_any (n lo hi : Int) (w : World) : Calls Tryd.prog 54 #[.int .i64 n, .int .i64 lo, .int .i64 hi] w fun e w' => e = .returned (.bool (inR n lo hi)) ∧ w' = w := by
  unfold inR
  by_cases h1 : lo ≤ n
  · have d1 : decide (lo ≤ n) = true := decide_eq_true h1
    rw [d1]
    go_enter Tryd.func54, Tryd.ntmps54
    go_wp2_with fail
    go_ret
    exact ⟨by simp, rfl⟩
  · have d1 : decide (lo ≤ n) = false := decide_eq_false h1
    rw [d1]
    go_enter Tryd.func54, Tryd.ntmps54
    go_wp2_with fail
    go_ret
    exact ⟨by simp, rfl⟩

/-! A set of names. -/
theorem Tryd.keyS : Keyed Tryd.prog 9 := string_keyed Tryd.underlying9
theorem Tryd.zeroU (w : World) : (zeroValue 99).run Tryd.prog w = .ok (.agg #[]) w := by kernel_rfl
def SetIs (w : World) (b n : Nat) (names : List ByteArray) : Prop :=
  ∃ D : DataW Unit, w.ownsMap Tryd.prog 9 unitElem b n D ∧ IsMap D ∧ ∀ s : ByteArray, s.size ≤ maxLen → (Maps.has D (.string s.data.toList) = true ↔ s ∈ names)
theorem str_inj {a b : ByteArray} (h : (Lit.string a.data.toList) = .string b.data.toList) : a = b := by
  injection h with h
  have : a.data = b.data := Array.toList_inj.1 h
  cases a; cases b; simp_all
theorem SetIs.made (w : World) : SetIs (w.alloc (.map #[] 0)) w.heap.size 0 [] :=
  ⟨_, World.ownsMap_made _ _ _ _, isMap_empty, fun s _ => by simp [Maps.has]⟩
theorem SetIs.lt {w : World} {b n : Nat} {names : List ByteArray} (h : SetIs w b n names) : b < w.heap.size := by
  obtain ⟨D, h1, _⟩ := h; exact h1.lt
theorem SetIs.chg {own : Nat → Prop} {w w' : World} {b n : Nat} {names : List ByteArray} (h : SetIs w b n names) (hc : Chg own w w') (hb : ¬ own b) : SetIs w' b n names := by
  obtain ⟨D, h1, h2, h3⟩ := h
  have hlt := h1.lt
  obtain ⟨es, clock, hbk, F, hs, hD⟩ := h1
  exact ⟨D, ⟨es, clock, (hc.block b hlt hb).trans hbk, F, hs, hD⟩, h2, h3⟩
theorem SetIs.kept {w w' : World} {b n : Nat} {names : List ByteArray} (h : SetIs w b n names) (hb : Below w.heap.size w w') : SetIs w' b n names := h.chg (own := fun _ => False) (Chg.of_below hb) id
theorem SetIs.mono {w : World} {b n m : Nat} {names : List ByteArray} (h : SetIs w b n names) (hn : n ≤ m) : SetIs w b m names := by
  obtain ⟨D, h1, h2, h3⟩ := h; exact ⟨D, h1.mono hn, h2, h3⟩
def IsNewPost (b n : Nat) (names : List ByteArray) (s : ByteArray) (w : World) (e : Ending) (w' : World) : Prop :=
  ∃ r : Bool, e = .returned (.bool r) ∧ (r = true ↔ s ∉ names ∧ nameB s = true) ∧ SetIs w' b (n + 1) (names ++ [s]) ∧ Chg (One b) w w'
set_option maxHeartbeats 1000000 in
theorem isNew_any (b n : Nat) (names : List ByteArray) (s : ByteArray) (w0 w : World) (hs : s.size ≤ 4611686018427387904) (hT : U8W w0) (h0 : Below w0.heap.size w0 w) (hb0 : w0.heap.size ≤ b) (hn : n ≤ 100000) (hS : SetIs w b n names) :
    Calls Tryd.prog 63 #[.map (some b), .string s] w fun e w' => IsNewPost b n names s w e w' := by
  obtain ⟨D, hown, hD, hhas⟩ := hS
  have hsm : s.size ≤ maxLen := by unfold maxLen; omega
  have hkey : keyOf Tryd.prog 9 (.string s) = some (.string s.data.toList) := Go.WideMaps.keyOf_string_mk Tryd.underlying9 hsm
  have hzu := Tryd.zeroU
  have hput : ∀ s' : ByteArray, s'.size ≤ maxLen → (Maps.has (D.put (.string s.data.toList) (.agg [])) (.string s'.data.toList) = true ↔ s' ∈ names ++ [s]) := fun s' hs' => by
    rw [List.mem_append, List.mem_singleton]
    by_cases e : s' = s
    · subst e
      rw [has_put_same hD (by first | exact trivial | simp [WideAt.IsKeyLit] | exact ⟨_, rfl⟩)]
      exact ⟨fun _ => .inr rfl, fun _ => rfl⟩
    · rw [has_put_other (fun h => e (str_inj h)), hhas s' hs']
      exact ⟨.inl, fun h => h.elim id (fun h => absurd h e)⟩
  obtain ⟨tw, htw⟩ : ∃ tw, tw = Maps.has D (.string s.data.toList) := ⟨_, rfl⟩
  have HTW : Hid (tw = true ↔ s ∈ names) := by unfold Hid; rw [htw]; exact hhas s hsm
  have HPUT := Lib.hid hput
  have HDD := Lib.hid (hD.put (.string s.data.toList) (.agg []))
  have HOWN := Lib.hid hown
  have HKEY := Lib.hid hkey
  have HTWE := Lib.hid htw
  have HB0 := Lib.hid hb0
  have H0 := Lib.hid h0
  have HT := Lib.hid hT
  clear hhas hput hD hown hkey htw hb0 h0 hT
  cases tw with
  | true =>
    go_enter Tryd.func63, Tryd.ntmps63
    go_wp2_with (first
      | (at_lookup; refine wpList_lookup_own_unit _ rfl _ _ 97 rfl 9 99 Tryd.keyS Tryd.underlying97 (Tryd.zeroU _) b n D rfl HOWN.out _ _ rfl HKEY.out ?_; rw [← HTWE.out])
      | (at_mapUpdate; refine wpList_mapUpdate_own _ rfl _ _ _ 97 rfl 9 99 Tryd.keyS Tryd.underlying97 (unitElem (H := Unit)) b n D rfl (HOWN.out.alloc _) (by unfold maxLen; omega) _ _ _ rfl rfl HKEY.out _ [] unitElem_mk ?_; intro w1 hown1 hgrow1))
    have HSN : Hid (SetIs w1 b (n + 1) (names ++ [s])) := ⟨_, hown1, HDD.out, HPUT.out⟩
    have HCN : Hid (Chg (One b) w w1) := (Chg.of_below ((Below.refl _ _).alloc (Nat.le_refl _) _)).trans (Chg.of_grown hgrow1 (fun g hg => by cases hg; rfl))
    go_ret
    exact ⟨false, rfl, ⟨fun h => (by cases h), fun h => absurd (by simpa using HTW.out : s ∈ names) h.1⟩, HSN.out, HCN.out⟩
  | false =>
    go_enter Tryd.func63, Tryd.ntmps63
    go_wp2_with (first
      | (at_lookup; refine wpList_lookup_own_unit _ rfl _ _ 97 rfl 9 99 Tryd.keyS Tryd.underlying97 (Tryd.zeroU _) b n D rfl HOWN.out _ _ rfl HKEY.out ?_; rw [← HTWE.out])
      | (at_mapUpdate; refine wpList_mapUpdate_own _ rfl _ _ _ 97 rfl 9 99 Tryd.keyS Tryd.underlying97 (unitElem (H := Unit)) b n D rfl (HOWN.out.alloc _) (by unfold maxLen; omega) _ _ _ rfl rfl HKEY.out _ [] unitElem_mk ?_; intro w1 hown1 hgrow1))
    have HSN : Hid (SetIs w1 b (n + 1) (names ++ [s])) := ⟨_, hown1, HDD.out, HPUT.out⟩
    have HCN : Hid (Chg (One b) w w1) := (Chg.of_below ((Below.refl _ _).alloc (Nat.le_refl _) _)).trans (Chg.of_grown hgrow1 (fun g hg => by cases hg; rfl))
    have HB01 : Hid (Below w0.heap.size w0 w1) := (H0.out.alloc H0.out.size _).grown hgrow1 (by simp; have := H0.out.size; omega) (fun j hj => by cases hj; exact HB0.out)
    have NM := Lib.hid (name_any s w1 hs (HT.out.next HB01.out))
    clear hown1 hgrow1
    refine NM.out.mono ?_; rintro e w2 ⟨rfl, b2⟩
    have HB2 := Lib.hid b2
    clear b2
    go_wp2_with fail
    go_ret
    refine ⟨nameB s, rfl, ⟨fun h => ⟨fun hm => (by have := HTW.out; simp at this; exact this hm), h⟩, fun h => h.2⟩, ?_, ?_⟩
    · exact HSN.out.kept HB2.out
    · exact HCN.out.more HB2.out
end Go.Proofs.YtbnlmeegepgioaaDoor
