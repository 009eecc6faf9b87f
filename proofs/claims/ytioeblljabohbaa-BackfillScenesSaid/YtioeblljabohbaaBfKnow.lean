/-
  Slots and Held as values: alike, or not.
  gangerref15.Same.
  gangerlaw15.known.
  gangerlaw15.known: the walk.
-/
import Derived.Test.YtioeblljabohbaaBfPlan
import Derived.Laws.StructEq
import Derived.Shelf.SlicesE.Kit
namespace Go.Proofs.Ytioeblljabohbaa
set_option linter.unusedVariables false

section
open Go Go.ChangeShapes Go.WideShapes Go.ChangeAt Go.RowKit Go.Lib Go.Sort Go.Maps
def eqS (a b c d a' b' c' d' : Int) : Bool := decide (a = a' ∧ b = b' ∧ c = c' ∧ d = d')
set_option maxRecDepth 100000 in
theorem sl_neq (a b c d a' b' c' d' : Int) (w : World) : Sem.run Try.prog (binOp .neq 55 (.agg #[.int .u32 a, .int .i64 b, .int .i64 c, .int .i64 d]) (.agg #[.int .u32 a', .int .i64 b', .int .i64 c', .int .i64 d'])) w = .ok (.bool (!eqS a b c d a' b' c' d')) w := by
  have u3 := Try.underlying3
  have a3 := Try.isAgg3
  have z3 := Try.sizeOf3
  have u22 := Try.underlying49
  have a22 := Try.isAgg49
  have z22 := Try.sizeOf49
  have u27 := Try.underlying27
  have a27 := Try.isAgg27
  have z27 := Try.sizeOf27
  have hS : Try.prog.underlying 55 = some (.struct (Try.prog.fieldsOf 55)) := by kernel_rfl
  have hp : Try.prog.stoodInHeld 55 = false := by kernel_rfl
  have hS2 : Try.prog.underlying 27 = some (.struct (Try.prog.fieldsOf 27)) := by kernel_rfl
  have hp2 : Try.prog.stoodInHeld 27 = false := by kernel_rfl
  rw [run_neq_struct, show (10000 : Nat) = 9999 + 1 from rfl, run_equalIn_agg w 9999 55 _ _ hS hp]
  simp only [Program.fieldsOf, Try.underlying55]
  go_simp
  by_cases h1 : a = a' <;> by_cases h2 : b = b' <;> by_cases h3 : c = c' <;> by_cases h4 : d = d' <;> simp [eqS, h1, h2, h3, h4]
set_option maxRecDepth 100000 in
theorem hd_neq (a b c d a' b' c' d' : Int) (w : World) : Sem.run Try.prog (binOp .neq 57 (.agg #[.int .i64 a, .int .i64 b, .int .i64 c, .int .i64 d]) (.agg #[.int .i64 a', .int .i64 b', .int .i64 c', .int .i64 d'])) w = .ok (.bool (!eqS a b c d a' b' c' d')) w := by
  have u3 := Try.underlying3
  have a3 := Try.isAgg3
  have z3 := Try.sizeOf3
  have u22 := Try.underlying49
  have a22 := Try.isAgg49
  have z22 := Try.sizeOf49
  have u27 := Try.underlying27
  have a27 := Try.isAgg27
  have z27 := Try.sizeOf27
  have hS : Try.prog.underlying 57 = some (.struct (Try.prog.fieldsOf 57)) := by kernel_rfl
  have hp : Try.prog.stoodInHeld 57 = false := by kernel_rfl
  have hS2 : Try.prog.underlying 27 = some (.struct (Try.prog.fieldsOf 27)) := by kernel_rfl
  have hp2 : Try.prog.stoodInHeld 27 = false := by kernel_rfl
  rw [run_neq_struct, show (10000 : Nat) = 9999 + 1 from rfl, run_equalIn_agg w 9999 57 _ _ hS hp]
  simp only [Program.fieldsOf, Try.underlying57]
  go_simp
  by_cases h1 : a = a' <;> by_cases h2 : b = b' <;> by_cases h3 : c = c' <;> by_cases h4 : d = d' <;> simp [eqS, h1, h2, h3, h4]
theorem sl_grd (op : BinOp) (x y : Operand) (a b : Array Value) (w : World) : Sem.run Try.prog (eqGuard op 55 x y (.agg a) (.agg b)) w = .ok () w := run_eqGuard_agg w op _ _ _ _ _ (by kernel_rfl)
theorem hd_grd (op : BinOp) (x y : Operand) (a b : Array Value) (w : World) : Sem.run Try.prog (eqGuard op 57 x y (.agg a) (.agg b)) w = .ok () w := run_eqGuard_agg w op _ _ _ _ _ (by kernel_rfl)
theorem eqS_iff {a b c d a' b' c' d' : Int} : eqS a b c d a' b' c' d' = true ↔ (a, b, c, d) = (a', b', c', d') := by
  unfold eqS
  rw [decide_eq_true_eq]
  simp [Prod.ext_iff]
end

section
open Go Go.RowKit Go.Lib
abbrev SlI := Int × Int × Int × Int
def slI (x : SlI) : List Value := [.int .u32 x.1, .int .i64 x.2.1, .int .i64 x.2.2.1, .int .i64 x.2.2.2]
abbrev SRowI := RowG 4 slI
def slZ (x : SlT) : SlI := ((x.1 : Int), (x.2.1 : Int), (x.2.2.1 : Int), (x.2.2.2.1 : Int))
theorem slI_cells {w : World} {bb off n c : Nat} {l : List SlI} (h : SRowI w (.slice (some ⟨bb, off, none⟩) n c) l) {k : Nat} (hk : k < l.length) {w' : World} (hb : Below w.heap.size w w') :
    w'.cell? ⟨bb, off + k * 4, none⟩ = some (.int .u32 l[k].1) ∧ w'.cell? ⟨bb, off + k * 4 + 1, none⟩ = some (.int .i64 l[k].2.1) ∧ w'.cell? ⟨bb, off + k * 4 + 2, none⟩ = some (.int .i64 l[k].2.2.1) ∧ w'.cell? ⟨bb, off + k * 4 + 3, none⟩ = some (.int .i64 l[k].2.2.2) := by
  obtain ⟨b', off', e, hc⟩ := h.at hk
  injection e with e; injection e with e1 e2; subst e1; subst e2
  exact ⟨hc w' hb 0 _ rfl, hc w' hb 1 _ rfl, hc w' hb 2 _ rfl, hc w' hb 3 _ rfl⟩
theorem srow_none {w : World} {n c : Nat} {l : List SlI} (h : SRowI w (.slice none n c) l) : l = [] := by
  rcases h with ⟨rfl, _⟩ | ⟨b, off, c', h1, _⟩
  · rfl
  · cases h1
theorem srow_some {w : World} {n c : Nat} {A : Addr} {l : List SlI} (h : SRowI w (.slice (some A) n c) l) (hk : 0 < l.length) : ∃ bb off, A = ⟨bb, off, none⟩ := by
  obtain ⟨b, off, e, _⟩ := h.at hk
  exact ⟨b, off, by injection e⟩
/-- The slots that a plan made, as a row. -/
theorem srow_of_own {w : World} {base : Nat} {v : Value} {S : List SlT} (h : SlOwn w base v S) : SRowI w v (S.map slZ) := by
  refine rowG_of_own (base := base) (e := 55) (s := 4) (enc := slI) (fun x => rfl) ?_
  rw [List.length_map, List.flatMap_map]
  exact h
attribute [local go_sem ↓] sl_neq sl_grd
set_option maxRecDepth 100000 in
set_option maxHeartbeats 4000000 in
theorem same_any (va vb : Value) (xs ys : List SlI) (w : World) (h1 : SRowI w va xs) (h2 : SRowI w vb ys) (hn : xs.length ≤ 1048576) (hm : ys.length ≤ 1048576) :
    Calls Try.prog 25 #[va, vb] w fun e w' => e = .returned (.bool (decide (xs = ys))) ∧ Below w.heap.size w w' := by
  have H1 := Lib.hid h1
  have H2 := Lib.hid h2
  obtain ⟨aa, ac, rfl⟩ := h1.slice
  obtain ⟨ba, bc, rfl⟩ := h2.slice
  clear h1 h2
  by_cases hl : xs.length = ys.length
  · obtain ⟨L, hL⟩ : ∃ n, n = xs.length := ⟨_, rfl⟩
    rw [← hl] at H2 hm ⊢
    rw [← hL] at H1 H2 hn hm ⊢
    have HL := Lib.hid hL
    have HL2 : Hid (L = ys.length) := hL.trans hl
    have hq : ((L : Int) != (L : Int)) = false := by simp
    clear hL hl
    go_enter Try.func25, Try.ntmps25
    go_wp2_with fail
    go_loopw [5] (fun iv wr => ∃ k : Nat, k ≤ L ∧ iv = .int .i64 k ∧ Hid (∀ i (h : i < xs.length) (h' : i < ys.length), i < k → xs[i] = ys[i]) ∧ Hid (Below w.heap.size w wr)) (fun iv _ => L - (RowKit.intOf iv).toNat)
    case atStart => exact ⟨0, Nat.zero_le _, rfl, fun i _ _ h => absurd h (Nat.not_lt_zero _), Below.refl _ _⟩
    case round =>
      obtain ⟨k, hk, rfl, HN, HB⟩ := hrel
      by_cases hlt : k < L
      · have hd : decide (k < L) = true := decide_eq_true hlt
        have hki : (k : Int) < (L : Int) := by omega
        have hkx : k < xs.length := by rw [← HL.out]; exact hlt
        have hky : k < ys.length := by rw [← HL2.out]; exact hlt
        cases aa with
        | none => have := srow_none H1.out; rw [this] at hkx; simp at hkx
        | some A =>
        cases ba with
        | none => have := srow_none H2.out; rw [this] at hky; simp at hky
        | some B =>
        obtain ⟨b1, o1, rfl⟩ := srow_some H1.out (by omega)
        obtain ⟨b2, o2, rfl⟩ := srow_some H2.out (by omega)
        obtain ⟨c0, c1, c2, c3⟩ := slI_cells H1.out hkx HB.out
        obtain ⟨e0, e1, e2, e3⟩ := slI_cells H2.out hky HB.out
        have HNE : Hid (¬ xs[k] = ys[k] → decide (xs = ys) = false) := fun h => decide_eq_false fun e => h (by subst e; rfl)
        have HNX : Hid (xs[k] = ys[k] → ∀ i (h : i < xs.length) (h' : i < ys.length), i < k + 1 → xs[i] = ys[i]) := fun h i hi hi' hi2 => by
          rcases Nat.lt_or_ge i k with h1 | h1
          · exact HN.out i hi hi' h1
          · obtain rfl : i = k := by omega
            exact h
        obtain ⟨x, hx⟩ : ∃ x, x = xs[k] := ⟨_, rfl⟩
        obtain ⟨y, hy⟩ : ∃ y, y = ys[k] := ⟨_, rfl⟩
        rw [← hx] at c0 c1 c2 c3 HNE HNX
        rw [← hy] at e0 e1 e2 e3 HNE HNX
        clear hx hy HN hkx hky
        obtain ⟨x0, x1, x2, x3⟩ := x
        obtain ⟨y0, y1, y2, y3⟩ := y
        dsimp only at c0 c1 c2 c3 e0 e1 e2 e3
        cases hq : eqS x0 x1 x2 x3 y0 y1 y2 y3
        · have HNY := Lib.hid (HNE.out fun e => by rw [eqS_iff.2 e] at hq; cases hq)
          clear HNX HNE
          go_wp2_with fail
          go_region
          go_wp2_with fail
          go_ret
          exact ⟨by (rw [HNY.out]; rfl), below_drewN HB.out _⟩
        · have HNY := Lib.hid (HNX.out (eqS_iff.1 hq))
          clear HNX HNE
          go_wp2_with fail
          go_region
          go_wp2_with fail
          go_roundw
          case rel => exact ⟨k + 1, hlt, by go_num, HNY, below_drewN HB.out _⟩
          case measure => simp [RowKit.intOf]; omega
      · have hd : decide (k < L) = false := decide_eq_false hlt
        have hki : ¬ (k : Int) < (L : Int) := by omega
        have HY : Hid (decide (xs = ys) = true) := decide_eq_true (List.ext_getElem (by rw [← HL.out]; exact HL2.out) fun i h1 h2 => HN.out i h1 h2 (by have := HL.out; omega))
        go_wp2_with fail
        go_ret
        exact ⟨by (rw [HY.out]; rfl), HB.out⟩
  · have hq : ((xs.length : Int) != (ys.length : Int)) = true := by simp; omega
    have HY : Hid (decide (xs = ys) = false) := decide_eq_false fun e => hl (by rw [e])
    generalize xs.length = LX at *
    generalize ys.length = LY at *
    go_enter Try.func25, Try.ntmps25
    go_wp2_with fail
    go_ret
    exact ⟨by (rw [HY.out]; rfl), Below.refl _ _⟩
end

section
open Go Go.RowKit Go.Lib Go.Sort
def hlK : List HeT := [(0, 1, 0, 10)]
def wsK : List (Nat × Nat × Nat) := [(1, 2, 5), (2, 1, 10), (3, 0, 20)]
/-- The ticks of a row that is sorted as it stands. -/
theorem earlyC_sorted {c : Sc} (h : SortedT c.hl) (q a len : Nat) : earlyC c q a len = earlyL c q len (tks (endsB c.hl) a) := by
  unfold earlyC
  rw [← tks_canon h (List.Perm.refl _)]
theorem ever_k (q : Nat) (hq : q ≤ 2) : everB 2 [] q = true := by
  rcases (by omega : q = 0 ∨ q = 1 ∨ q = 2) with rfl | rfl | rfl <;> decide
theorem place1 (H : List HeT) (q now len : Nat) : placeB 2 [] H 1 q now len = (firstB ⟨2, [], H⟩ q now (now + len)).map fun s => (now, s) := by unfold placeB; rw [if_pos rfl]
theorem place2 {H : List HeT} (h : SortedT H) (q now len : Nat) : placeB 2 [] H 2 q now len = earlyL ⟨2, [], H⟩ q len (tks (endsB H) now) := by
  unfold placeB; rw [if_neg (by decide), if_pos rfl]; exact earlyC_sorted h q now len
theorem place0 (H : List HeT) (q now len : Nat) : placeB 2 [] H 0 q now len = none := by unfold placeB; rw [if_neg (by decide), if_neg (by decide)]
theorem sorted1 : SortedT hlK := by unfold SortedT hlK; simp
theorem k_fifo : planL 2 [] 0 0 0 wsK hlK 1 false = [] := by
  unfold wsK
  rw [planL, if_neg (by rw [ever_k 2 (by omega)]; decide), place1, show firstB ⟨2, [], hlK⟩ 2 0 (0 + 5) = none by decide]
  dsimp only [Option.map]
  rw [if_neg (by decide), place0]
  dsimp only
  rw [planL, if_neg (by rw [ever_k 1 (by omega)]; decide), place0]
  dsimp only
  rw [if_pos rfl, planL, if_neg (by rw [ever_k 0 (by omega)]; decide), place0]
  dsimp only
  rw [if_pos rfl, planL]
theorem k_easy : planL 2 [] 0 2 1 wsK hlK 1 false = [(1, 0, 2, 10, 5), (2, 2, 1, 0, 10)] := by
  unfold wsK
  rw [planL, if_neg (by rw [ever_k 2 (by omega)]; decide), place1, show firstB ⟨2, [], hlK⟩ 2 0 (0 + 5) = none by decide]
  dsimp only [Option.map]
  rw [if_neg (by decide), place2 sorted1, show earlyL ⟨2, [], hlK⟩ 2 5 (tks (endsB hlK) 0) = some (10, 0) by decide]
  dsimp only
  rw [planL, if_neg (by rw [ever_k 1 (by omega)]; decide), place1, show firstB ⟨2, [], (0, 2, 10, 10 + 5) :: hlK⟩ 1 0 (0 + 10) = some 2 by decide]
  dsimp only [Option.map]
  rw [planL, if_neg (by rw [ever_k 0 (by omega)]; decide), place1, show firstB ⟨2, [], (2, 1, 0, 0 + 10) :: (0, 2, 10, 10 + 5) :: hlK⟩ 0 0 (0 + 20) = none by decide]
  dsimp only [Option.map]
  rw [if_pos rfl, planL]
theorem k_cons : planL 2 [] 0 0 0 wsK hlK 2 false = [(1, 0, 2, 10, 5), (2, 2, 1, 0, 10), (3, 0, 0, 15, 20)] := by
  have hp : ∀ {F G : List HeT} (q a len : Nat), F.Perm G → earlyC ⟨2, [], F⟩ q a len = earlyC ⟨2, [], G⟩ q a len := by
    intro F G q a len h
    have e : tks (endsC ⟨2, [], F⟩) a = tks (endsC ⟨2, [], G⟩) a := by
      refine tks_same (endsC_sorted _) (endsC_sorted _) (fun x => ?_) _ a (Nat.le_refl _)
      rw [endsC_mem, endsC_mem]
      exact (h.map (fun h => h.2.2.2)).mem_iff
    unfold earlyC
    rw [e, earlyL_perm h]
  have hpp : ∀ {F G : List HeT} (q a len : Nat), F.Perm G → placeB 2 [] F 2 q a len = placeB 2 [] G 2 q a len := by
    intro F G q a len h
    unfold placeB; rw [if_neg (by decide), if_pos rfl, if_neg (by decide), if_pos rfl]; exact hp q a len h
  unfold wsK
  rw [planL, if_neg (by rw [ever_k 2 (by omega)]; decide), place2 sorted1, show earlyL ⟨2, [], hlK⟩ 2 5 (tks (endsB hlK) 0) = some (10, 0) by decide]
  dsimp only
  rw [planL, if_neg (by rw [ever_k 1 (by omega)]; decide), hpp (F := (0, 2, 10, 10 + 5) :: hlK) (G := [(0, 1, 0, 10), (0, 2, 10, 15)]) 1 0 10 (List.Perm.swap _ _ _), place2 (by unfold SortedT; simp), show earlyL ⟨2, [], [(0, 1, 0, 10), (0, 2, 10, 15)]⟩ 1 10 (tks (endsB [(0, 1, 0, 10), (0, 2, 10, 15)]) 0) = some (0, 2) by decide]
  dsimp only
  rw [planL, if_neg (by rw [ever_k 0 (by omega)]; decide), hpp (F := (2, 1, 0, 0 + 10) :: (0, 2, 10, 10 + 5) :: hlK) (G := [(2, 1, 0, 10), (0, 1, 0, 10), (0, 2, 10, 15)]) 0 0 20 ((List.Perm.swap _ _ _).cons _), place2 (by unfold SortedT; simp), show earlyL ⟨2, [], [(2, 1, 0, 10), (0, 1, 0, 10), (0, 2, 10, 15)]⟩ 0 20 (tks (endsB [(2, 1, 0, 10), (0, 1, 0, 10), (0, 2, 10, 15)]) 0) = some (15, 0) by decide]
  dsimp only
  rw [planL]
end

section
open Go Go.RowKit Go.Lib Go.Sort
theorem hl_ok : ScOk ⟨2, [], hlK⟩ := ⟨by decide, List.Pairwise.nil, fun x hx => (nomatch hx), by decide, fun h hh => by
  unfold hlK at hh
  rw [List.mem_singleton] at hh
  subst hh
  exact ⟨⟨by decide, by decide, by decide⟩, by decide, by decide⟩⟩
theorem ws_ok : ∀ x ∈ wsK, 1 ≤ x.2.2 ∧ x.2.2 ≤ 1099511627776 := by
  intro x hx
  unfold wsK at hx
  simp at hx
  rcases hx with rfl | rfl | rfl <;> exact ⟨by decide, by decide⟩
theorem rowG_of_blk {α : Type} {s : Nat} {enc : α → List Value} (hs : ∀ x, (enc x).length = s) {w : World} {g : Nat} {t : TypeId} {l : List α} {m : Nat} (hm : l.length = m) (h : Blk w g (l.flatMap enc).toArray t) (h0 : 0 < m) (c : Nat) : RowG s enc w (.slice (some ⟨g, 0, none⟩) m c) l := by
  subst hm
  refine .inr ⟨g, 0, c, rfl, h0, fun i hi j u hu => ?_⟩
  have hj : j < s := by have := (List.getElem?_eq_some_iff.1 hu).1; rw [hs] at this; exact this
  rw [Nat.zero_add, h.cell, ← Array.getElem?_toList]
  exact (flatG_get hs l i hi j hj).trans hu
set_option maxRecDepth 100000 in
set_option maxHeartbeats 8000000 in
theorem known15_any (w : World) : Calls Try.prog 9 #[] w fun e w' => e = .returned (.bool true) ∧ Below w.heap.size w w' := by
  go_enter Try.func9, Try.ntmps9
  go_upto_region 3 with fail
  obtain ⟨W, hW⟩ : ∃ W, W = ((w.alloc (.cells #[.int .i64 0, .int .i64 1, .int .i64 0, .int .i64 10] 57)).alloc (.cells #[.int .i64 2, .slice none 0 0, .slice (some ⟨w.heap.size, 0, none⟩) 1 1] 25)).alloc (.cells #[.int .u32 1, .int .i64 2, .int .i64 5, .int .u32 2, .int .i64 1, .int .i64 10, .int .u32 3, .int .i64 0, .int .i64 20] 51) := ⟨_, rfl⟩
  obtain ⟨gH, hgH⟩ : ∃ g, g = w.heap.size := ⟨_, rfl⟩
  obtain ⟨gS, hgS⟩ : ∃ g, g = w.heap.size + 1 := ⟨_, rfl⟩
  obtain ⟨gW, hgW⟩ : ∃ g, g = w.heap.size + 1 + 1 := ⟨_, rfl⟩
  have HBW : Hid (Below w.heap.size w W) := by unfold Hid; rw [hW]; exact (((Below.refl _ _).alloc (Nat.le_refl _) _).alloc (by simp) _).alloc (by simp; omega) _
  have hH : Blk W gH #[.int .i64 0, .int .i64 1, .int .i64 0, .int .i64 10] 57 := by rw [hW, hgH]; exact ((Blk.new w _ _).old _).old _
  have hS : Blk W gS #[.int .i64 2, .slice none 0 0, .slice (some ⟨gH, 0, none⟩) 1 1] 25 := by
    have h := Blk.fresh (w.alloc (.cells #[.int .i64 0, .int .i64 1, .int .i64 0, .int .i64 10] 57)) #[.int .i64 2, .slice none 0 0, .slice (some ⟨w.heap.size, 0, none⟩) 1 1] 25 gS (by rw [hgS]; simp)
    rw [hW, hgH]; exact h.old _
  have hWt : Blk W gW #[.int .u32 1, .int .i64 2, .int .i64 5, .int .u32 2, .int .i64 1, .int .i64 10, .int .u32 3, .int .i64 0, .int .i64 20] 51 := by
    rw [hW]; exact Blk.fresh _ _ _ gW (by rw [hgW]; simp)
  have PI : PlanIn W (.slice none 0 0) (.slice (some ⟨gH, 0, none⟩) 1 1) (.slice (some ⟨gW, 0, none⟩) 3 3) 2 [] hlK wsK 0 :=
    ⟨⟨.inl ⟨rfl, _, _, rfl⟩, rowG_of_blk (s := 4) (enc := heI) (l := hlK.map heZ) (m := 1) (fun x => rfl) rfl hH (by decide) 1⟩, rowG_of_blk (s := 3) (enc := waI) (l := wsK.map waN) (m := 3) (fun x => rfl) rfl hWt (by decide) 3, hl_ok, by decide, by decide, ws_ok⟩
  have HFI : Hid (∀ w', Below W.heap.size W w' → Calls Try.prog 26 #[.agg #[.int .i64 2, .slice none 0 0, .slice (some ⟨gH, 0, none⟩) 1 1], .slice (some ⟨gW, 0, none⟩) 3 3, .int .i64 0] w' fun e w'' => PlanTo w'.heap.size 0 [] w' e w'') := fun w' h => by
    have h := (PI.kept h).fifo
    rw [k_fifo] at h; exact h
  have HEA : Hid (∀ w', Below W.heap.size W w' → Calls Try.prog 24 #[.agg #[.int .i64 2, .slice none 0 0, .slice (some ⟨gH, 0, none⟩) 1 1], .slice (some ⟨gW, 0, none⟩) 3 3, .int .i64 0] w' fun e w'' => PlanTo w'.heap.size 0 [(1, 0, 2, 10, 5), (2, 2, 1, 0, 10)] w' e w'') := fun w' h => by
    have h := (PI.kept h).easy
    rw [k_easy] at h; exact h
  have HCO : Hid (∀ w', Below W.heap.size W w' → Calls Try.prog 27 #[.agg #[.int .i64 2, .slice none 0 0, .slice (some ⟨gH, 0, none⟩) 1 1], .slice (some ⟨gW, 0, none⟩) 3 3, .int .i64 0] w' fun e w'' => PlanTo w'.heap.size 0 [(1, 0, 2, 10, 5), (2, 2, 1, 0, 10), (3, 0, 0, 15, 20)] w' e w'') := fun w' h => by
    have h := (PI.kept h).cons
    rw [k_cons] at h; exact h
  have HNO : Hid (∀ w', Calls Try.prog 26 #[.agg #[.int .i64 11, .slice none 0 0, .slice none 0 0], .slice none 0 0, .int .i64 0] w' fun e w'' => PlanTo w'.heap.size 2 [] w' e w'') := fun w' =>
    fifo_no (N := 11) (now := 0) (FL := []) (HL := []) (WL := []) (.inl ⟨rfl, _, _, rfl⟩) (.inl ⟨rfl, _, _, rfl⟩) (.inl ⟨rfl, _, _, rfl⟩) (Nat.zero_le _) (Nat.zero_le _) (Nat.zero_le _) (fun h => by have := (good_n h.1).2.1; omega)
  have HS := Lib.hid hS
  have s0 := hS.cell 0
  have s1 := hS.cell 1
  have s2 := hS.cell 2
  simp at s0 s1 s2
  rw [← hW, ← hgW, ← hgS, ← hgH]
  clear hgW hgS hgH hW hH hS hWt PI
  go_wp2_with fail
  refine (HFI.out _ (Below.refl _ _)).mono ?_; rintro e w1 ⟨va, rfl, oa, b1⟩
  obtain ⟨aa, ca, rfl⟩ := own_slice oa
  have HB1 := Lib.hid b1
  have hS1 := HS.out.kept b1
  clear s0 s1 s2 oa b1 HFI
  have s0 := hS1.cell 0
  have s1 := hS1.cell 1
  have s2 := hS1.cell 2
  simp at s0 s1 s2
  clear hS1
  dsimp only [List.length]
  go_wp2_with fail
  refine (HEA.out _ HB1.out).mono ?_; rintro e w2 ⟨vb, rfl, ob, b2⟩
  obtain ⟨ab, cb, rfl⟩ := own_slice ob
  have HB2 := Lib.hid (below_next b2 HB1.out)
  have RB2 := Lib.hid (srow_of_own ob)
  have hS1 := HS.out.kept HB2.out
  clear s0 s1 s2 ob b2 HEA
  have s0 := hS1.cell 0
  have s1 := hS1.cell 1
  have s2 := hS1.cell 2
  simp at s0 s1 s2
  clear hS1
  dsimp only [List.length] at RB2 ⊢
  go_wp2_with fail
  refine (HCO.out _ HB2.out).mono ?_; rintro e w3 ⟨vc, rfl, oc, b3⟩
  obtain ⟨ac, cc, rfl⟩ := own_slice oc
  have HB3 := Lib.hid (below_next b3 HB2.out)
  have RB3 := Lib.hid (RB2.out.kept b3)
  have RC3 := Lib.hid (srow_of_own oc)
  clear s0 s1 s2 oc b3 HCO RB2
  dsimp only [List.length] at RC3 ⊢
  go_upto_region 8 with fail
  obtain ⟨W4, hW4⟩ : ∃ W, W = (w3.alloc (.cells #[.int .u32 1, .int .i64 0, .int .i64 2, .int .i64 10, .int .u32 2, .int .i64 2, .int .i64 1, .int .i64 0] 55)).alloc (.cells #[.int .u32 1, .int .i64 0, .int .i64 2, .int .i64 10, .int .u32 2, .int .i64 2, .int .i64 1, .int .i64 0, .int .u32 3, .int .i64 0, .int .i64 0, .int .i64 15] 55) := ⟨_, rfl⟩
  obtain ⟨gB, hgB⟩ : ∃ g, g = w3.heap.size := ⟨_, rfl⟩
  obtain ⟨gC, hgC⟩ : ∃ g, g = w3.heap.size + 1 := ⟨_, rfl⟩
  have hb4 : Below w3.heap.size w3 W4 := by rw [hW4]; exact ((Below.refl _ _).alloc (Nat.le_refl _) _).alloc (by simp) _
  have hB : Blk W4 gB #[.int .u32 1, .int .i64 0, .int .i64 2, .int .i64 10, .int .u32 2, .int .i64 2, .int .i64 1, .int .i64 0] 55 := by rw [hW4, hgB]; exact (Blk.new w3 _ _).old _
  have hC : Blk W4 gC #[.int .u32 1, .int .i64 0, .int .i64 2, .int .i64 10, .int .u32 2, .int .i64 2, .int .i64 1, .int .i64 0, .int .u32 3, .int .i64 0, .int .i64 0, .int .i64 15] 55 := by rw [hW4]; exact Blk.fresh _ _ _ gC (by rw [hgC]; simp)
  have HB4 := Lib.hid (below_next hb4 HB3.out)
  have RB4 := Lib.hid (RB3.out.kept hb4)
  have RC4 := Lib.hid (RC3.out.kept hb4)
  have TB4 : Hid (SRowI W4 (.slice (some ⟨gB, 0, none⟩) 2 2) (List.map slZ [(1, 0, 2, 10, 5), (2, 2, 1, 0, 10)])) := rowG_of_blk (s := 4) (enc := slI) (l := List.map slZ [(1, 0, 2, 10, 5), (2, 2, 1, 0, 10)]) (m := 2) (fun x => rfl) rfl hB (by decide) 2
  have TC4 : Hid (SRowI W4 (.slice (some ⟨gC, 0, none⟩) 3 3) (List.map slZ [(1, 0, 2, 10, 5), (2, 2, 1, 0, 10), (3, 0, 0, 15, 20)])) := rowG_of_blk (s := 4) (enc := slI) (l := List.map slZ [(1, 0, 2, 10, 5), (2, 2, 1, 0, 10), (3, 0, 0, 15, 20)]) (m := 3) (fun x => rfl) rfl hC (by decide) 3
  rw [← hW4, ← hgC, ← hgB]
  clear hW4 hgC hgB hb4 hB hC RB3 RC3
  go_wp2_with fail
  refine (HNO.out _).mono ?_; rintro e w5 ⟨vd, rfl, od, b5⟩
  obtain ⟨ad, cd, rfl⟩ := own_slice od
  have HB5 := Lib.hid (below_next b5 HB4.out)
  have SB : Hid (∀ w', Below w5.heap.size w5 w' → Calls Try.prog 25 #[.slice ab 2 cb, .slice (some ⟨gB, 0, none⟩) 2 2] w' fun e w'' => e = .returned (.bool true) ∧ Below w'.heap.size w' w'') := fun w' h => by
    have h := same_any _ _ _ _ w' ((RB4.out.kept b5).kept h) ((TB4.out.kept b5).kept h) (by decide) (by decide)
    rwa [decide_eq_true rfl] at h
  have SC : Hid (∀ w', Below w5.heap.size w5 w' → Calls Try.prog 25 #[.slice ac 3 cc, .slice (some ⟨gC, 0, none⟩) 3 3] w' fun e w'' => e = .returned (.bool true) ∧ Below w'.heap.size w' w'') := fun w' h => by
    have h := same_any _ _ _ _ w' ((RC4.out.kept b5).kept h) ((TC4.out.kept b5).kept h) (by decide) (by decide)
    rwa [decide_eq_true rfl] at h
  clear od b5 HNO RB4 RC4 TB4 TC4 HB4
  go_wp2_with fail
  refine (SB.out _ (Below.refl _ _)).mono ?_; rintro e w6 ⟨rfl, b6⟩
  have HB6 := Lib.hid (below_next b6 HB5.out)
  have SC2 := Lib.hid (SC.out _ b6)
  clear b6 SC SB
  go_wp2_with fail
  refine SC2.out.mono ?_; rintro e w7 ⟨rfl, b7⟩
  have HB7 := below_next b7 (below_next HB6.out HBW.out)
  clear b7 SC2
  go_wp2_with fail
  go_ret
  exact ⟨rfl, HB7⟩
end

end Go.Proofs.Ytioeblljabohbaa
