/-
  slices.Clone and slices.SortFunc at rows of held blocks.
-/
import Derived.Test.YtioeblljabohbaaBfR
import Derived.Test.YtioeblljabohbaaRwS
import Derived.Test.YtioeblljabohbaaSoG
import Derived.Test.YtioeblljabohbaaShelf2
namespace Go.Proofs.Ytioeblljabohbaa
open Go Go.RowKit Go.Lib Go.Sort
set_option linter.unusedVariables false

theorem cmpF_neg {x t : Int} : Lib.compareInt x t < 0 ↔ x < t := by
  unfold Lib.compareInt; split <;> (try split) <;> omega

theorem Try.infoHe : (Try.prog.info? 57).map (fun i => (i.zero, i.size, i.bytes)) = some (some (.agg #[.int .i64 0, .int .i64 0, .int .i64 0, .int .i64 0]), 4, 32) := by kernel_rfl
theorem heF_one (l : List HeT) : ∀ u ∈ heF l, u.oneCell' = true := fun u hu => by
  obtain ⟨x, _, h⟩ := List.mem_flatMap.1 hu
  simp [heI] at h
  rcases h with rfl | rfl | rfl | rfl <;> rfl
theorem heF_len (l : List HeT) : (heF l).length = l.length * 4 := by unfold heF; rw [flatG_len heI_len, List.length_map]
theorem src_he {w : World} {v : Value} {l : List HeT} (h : HRow w v (l.map heZ)) : Src w 4 v l.length (heF l) := by
  have := src_of_rowG heI_len (by decide) h
  rwa [List.length_map] at this
theorem hrow_of_own {w : World} {base : Nat} {v : Value} {l : List HeT} (h : HOwn w base v l) : HRow w v (l.map heZ) := by
  refine rowG_of_own heI_len (base := base) (e := 57) ?_
  rw [List.length_map]; exact h
set_option maxRecDepth 100000 in
theorem cloneHe_any (v : Value) (l : List HeT) (w : World) (hn : l.length ≤ 1048576) (h : HRow w v (l.map heZ)) :
    Calls Try.prog 48 #[v] w fun e w' => ∃ v', e = .returned v' ∧ HOwn w' w.heap.size v' l ∧ Below w.heap.size w w' := by
  obtain ⟨i0, hi, hz0, hz1, hz2⟩ := info_parts Try.infoHe
  have SRC := Lib.hid (src_he h)
  obtain ⟨a, c, rfl⟩ := h.slice
  rw [List.length_map] at *
  cases a with
  | none =>
    have hl : l = [] := by
      rcases h with ⟨h1, _⟩ | ⟨b, off, c', h1, _⟩
      · simpa using h1
      · cases h1
    subst hl
    have q : ∀ (w : World) (n c n' c' : Nat), (binOp .eql 23 (.slice none n c) (.slice none n' c')).run Try.prog w = .ok (.bool true) w := fun w n c n' c' => Lib.run_eql_slice_nil w _ _ none n c n' c' Try.underlying23
    clear SRC h
    go_enter Try.func48, Try.ntmps48
    go_wp2_with fail
    go_ret
    exact ⟨_, rfl, ⟨rfl, .inl ⟨rfl, rfl⟩⟩, Below.refl _ _⟩
  | some a =>
    have q : ∀ (w : World) (a : Addr) (n c n' c' : Nat), (binOp .eql 23 (.slice (some a) n c) (.slice none n' c')).run Try.prog w = .ok (.bool false) w := fun w a n c n' c' => Lib.run_eql_slice_nil w _ _ (some a) n c n' c' Try.underlying23
    obtain ⟨N, hN⟩ : ∃ N, N = l.length := ⟨_, rfl⟩
    rw [← hN] at SRC hn ⊢
    have HN := Lib.hid hN
    clear h hN
    go_enter Try.func48, Try.ntmps48
    go_wp2_with (at_builtin; refine wpList_app rfl _ _ 23 rfl w.heap.size 57 i0 _ 4 32 Try.underlying23 hi hz0 hz1 hz2 rfl (by decide) _ 0 [] rfl (World.ownsRow_made w #[] 0 (Nat.le_refl _) (Nat.zero_le _) (by simp)) _ N (heF l) rfl (SRC.out.kept ((Below.refl _ _).alloc (Nat.le_refl _) _)) (heF_one l) (by unfold maxLen; omega) (by omega) (by simp) ?_; intro v5 w5 hown5 hgrow5 _)
    go_wp2_with fail
    go_ret
    rw [Nat.zero_add, List.nil_append, HN.out] at hown5
    exact ⟨v5, rfl, hown5, ((Below.refl _ w).alloc (Nat.le_refl _) _).grown hgrow5 (by simp) (fun k hk => by
      have e : some w.heap.size = some k := hk
      injection e with e
      omega)⟩
def cmpFr (x y : HeI) : Int := Lib.compareInt x.2.2.1 y.2.2.1
theorem ltFr_iff (x y : HeI) : ltOf cmpFr x y = true ↔ x.2.2.1 < y.2.2.1 := by unfold ltOf cmpFr; rw [decide_eq_true_eq, cmpF_neg]
theorem ltFr_false (x y : HeI) : ltOf cmpFr x y = false ↔ y.2.2.1 ≤ x.2.2.1 := by
  rw [← Bool.not_eq_true, ltFr_iff]; omega
theorem swoFr : SWO (ltOf cmpFr) where
  irrefl x := by rw [ltFr_false]; omega
  trans x y z h1 h2 := by rw [ltFr_iff] at *; omega
  ntrans x y z h1 h2 := by rw [ltFr_false] at *; omega
theorem closFr (x1 x2 x3 x4 y1 y2 y3 y4 : Int) (w : World) :
    Calls Try.prog 50 #[.agg #[.int .i64 x1, .int .i64 x2, .int .i64 x3, .int .i64 x4], .agg #[.int .i64 y1, .int .i64 y2, .int .i64 y3, .int .i64 y4]] w fun e w' => e = .returned (.int .i64 (Lib.compareInt x3 y3)) ∧ Grw w w' := by
  have C : Hid (∀ w, Calls Try.prog 64 #[.int .i64 x3, .int .i64 y3] w fun e w' => e = .returned (.int .i64 (Lib.compareInt x3 y3)) ∧ w' = w) := fun w => Try.cmp_Compare_int x3 y3 w
  generalize Lib.compareInt x3 y3 = r at *
  go_enter Try.func50, Try.ntmps50
  go_wp2_with fail
  refine (C.out _).mono ?_; rintro e w1 ⟨rfl, hw⟩; subst hw
  go_wp2_with fail
  go_ret
  exact ⟨rfl, ⟨by go_grown, Nat.le_refl _⟩⟩
theorem cmpLaysFr (blk off size : Nat) (w : World) : CmpLays Try.prog 50 #[] heI 4 cmpFr blk off size w :=
  fun _ _ _ _ x y => (closFr x.1 x.2.1 x.2.2.1 x.2.2.2 y.1 y.2.1 y.2.2.1 y.2.2.2 _).mono fun _ _ ⟨he, hg⟩ => ⟨he, hg.form⟩
theorem sortFr_own (base : Nat) (v : Value) (l : List HeT) (w : World) (hn : l.length ≤ 4194304) (h : HOwn w base v l) :
    Calls Try.prog 49 #[v, .func (.func 50) #[] #[]] w
      fun e w' => e = .returned (.tuple #[]) ∧ ∃ S : List HeI, S.Perm (l.map heZ) ∧ WeakG (ltOf cmpFr) S ∧ w'.ownsRow base 57 4 v S.length (S.flatMap heI) ∧ w.grownBy w' v.ownBlock := by
  have hl : (l.map heZ).length = l.length := List.length_map ..
  refine sortG_own heI_len (by decide) cmpFr base v (l.map heZ) w (by rw [hl]; exact h) ?_ ?_
  · exact AnyF.slices_SortFunc_none Try.sortHeld none 0 (.func (.func 50) #[] #[]) w
  · intro g cap hH hg
    have eg : ∀ args w, (callFunc 50 args).run Try.prog w = .ok (.enter 50 args) w := enters_of Try.func50 (by kernel_rfl) rfl
    exact AnyQ.slices_SortFunc Try.sortHeld 4 Try.isAgg57 Try.sizeOf57 heI heI_len (fun x v hv => by simp [heI] at hv; rcases hv with rfl | rfl | rfl | rfl <;> rfl) cmpFr swoFr 50 #[] g 0 cap (l.map heZ).toArray w eg
      (cmpLaysFr g 0 _ w) hH hg (by simp; omega)
def cmpTo (x y : HeI) : Int := Lib.compareInt x.2.2.2 y.2.2.2
theorem ltTo_iff (x y : HeI) : ltOf cmpTo x y = true ↔ x.2.2.2 < y.2.2.2 := by unfold ltOf cmpTo; rw [decide_eq_true_eq, cmpF_neg]
theorem ltTo_false (x y : HeI) : ltOf cmpTo x y = false ↔ y.2.2.2 ≤ x.2.2.2 := by
  rw [← Bool.not_eq_true, ltTo_iff]; omega
theorem swoTo : SWO (ltOf cmpTo) where
  irrefl x := by rw [ltTo_false]; omega
  trans x y z h1 h2 := by rw [ltTo_iff] at *; omega
  ntrans x y z h1 h2 := by rw [ltTo_false] at *; omega
theorem closTo (x1 x2 x3 x4 y1 y2 y3 y4 : Int) (w : World) :
    Calls Try.prog 51 #[.agg #[.int .i64 x1, .int .i64 x2, .int .i64 x3, .int .i64 x4], .agg #[.int .i64 y1, .int .i64 y2, .int .i64 y3, .int .i64 y4]] w fun e w' => e = .returned (.int .i64 (Lib.compareInt x4 y4)) ∧ Grw w w' := by
  have C : Hid (∀ w, Calls Try.prog 64 #[.int .i64 x4, .int .i64 y4] w fun e w' => e = .returned (.int .i64 (Lib.compareInt x4 y4)) ∧ w' = w) := fun w => Try.cmp_Compare_int x4 y4 w
  generalize Lib.compareInt x4 y4 = r at *
  go_enter Try.func51, Try.ntmps51
  go_wp2_with fail
  refine (C.out _).mono ?_; rintro e w1 ⟨rfl, hw⟩; subst hw
  go_wp2_with fail
  go_ret
  exact ⟨rfl, ⟨by go_grown, Nat.le_refl _⟩⟩
theorem cmpLaysTo (blk off size : Nat) (w : World) : CmpLays Try.prog 51 #[] heI 4 cmpTo blk off size w :=
  fun _ _ _ _ x y => (closTo x.1 x.2.1 x.2.2.1 x.2.2.2 y.1 y.2.1 y.2.2.1 y.2.2.2 _).mono fun _ _ ⟨he, hg⟩ => ⟨he, hg.form⟩
theorem sortTo_own (base : Nat) (v : Value) (l : List HeT) (w : World) (hn : l.length ≤ 4194304) (h : HOwn w base v l) :
    Calls Try.prog 49 #[v, .func (.func 51) #[] #[]] w
      fun e w' => e = .returned (.tuple #[]) ∧ ∃ S : List HeI, S.Perm (l.map heZ) ∧ WeakG (ltOf cmpTo) S ∧ w'.ownsRow base 57 4 v S.length (S.flatMap heI) ∧ w.grownBy w' v.ownBlock := by
  have hl : (l.map heZ).length = l.length := List.length_map ..
  refine sortG_own heI_len (by decide) cmpTo base v (l.map heZ) w (by rw [hl]; exact h) ?_ ?_
  · exact AnyF.slices_SortFunc_none Try.sortHeld none 0 (.func (.func 51) #[] #[]) w
  · intro g cap hH hg
    have eg : ∀ args w, (callFunc 51 args).run Try.prog w = .ok (.enter 51 args) w := enters_of Try.func51 (by kernel_rfl) rfl
    exact AnyQ.slices_SortFunc Try.sortHeld 4 Try.isAgg57 Try.sizeOf57 heI heI_len (fun x v hv => by simp [heI] at hv; rcases hv with rfl | rfl | rfl | rfl <;> rfl) cmpTo swoTo 51 #[] g 0 cap (l.map heZ).toArray w eg
      (cmpLaysTo g 0 _ w) hH hg (by simp; omega)
end Go.Proofs.Ytioeblljabohbaa
