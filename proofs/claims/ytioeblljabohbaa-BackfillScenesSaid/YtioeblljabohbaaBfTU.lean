/-
  backfill.newBoard.
  backfill's board.at.
  backfill's board.ticks.
-/
import Derived.Test.YtioeblljabohbaaBfS
import Derived.Deep.RegionHeld3
import Derived.Deep.CutBlock
import Derived.Maps.AppendAt
namespace Go.Proofs.Ytioeblljabohbaa
set_option linter.unusedVariables false

section
open Go Go.RowKit Go.Lib Go.Sort
def SortedF (F : List HeT) : Prop := F.Pairwise fun x y => x.2.2.1 ≤ y.2.2.1
def SortedT (T : List HeT) : Prop := T.Pairwise fun x y => x.2.2.2 ≤ y.2.2.2
def heN (x : HeI) : HeT := (x.1.toNat, x.2.1.toNat, x.2.2.1.toNat, x.2.2.2.toNat)
theorem heN_heZ (x : HeT) : heN (heZ x) = x := by
  obtain ⟨a, b, c, d⟩ := x
  simp [heZ, heN]
theorem map_heN (l : List HeT) : (l.map heZ).map heN = l := by
  rw [List.map_map]
  have : heN ∘ heZ = id := funext heN_heZ
  rw [this, List.map_id]
theorem perm_heZ {S : List HeI} {l : List HeT} (h : S.Perm (l.map heZ)) : ∃ F : List HeT, S = F.map heZ ∧ F.Perm l := by
  refine ⟨S.map heN, ?_, by have := h.map heN; rwa [map_heN] at this⟩
  rw [List.map_map]
  have hm : ∀ x ∈ S, (heZ ∘ heN) x = x := fun x hx => by
    obtain ⟨y, _, hy⟩ := List.mem_map.1 (h.mem_iff.1 hx)
    rw [← hy]
    show heZ (heN (heZ y)) = heZ y
    rw [heN_heZ]
  clear h
  induction S with
  | nil => rfl
  | cons a t ih =>
    rw [List.map_cons, ← ih (fun x hx => hm x (List.mem_cons_of_mem _ hx)), hm a (List.mem_cons_self ..)]
theorem pairwise_adj {α : Type} {f : α → Nat} {F : List α} (h : ∀ i, (h : i + 1 < F.length) → f F[i] ≤ f F[i + 1]) : F.Pairwise fun x y => f x ≤ f y := by
  rw [List.pairwise_iff_getElem]
  intro i j hi hj hij
  obtain ⟨d, rfl⟩ : ∃ d, j = i + 1 + d := ⟨j - (i + 1), by omega⟩
  induction d with
  | zero => exact h i hj
  | succ d ih => exact Nat.le_trans (ih (by omega) (by omega)) (h (i + 1 + d) hj)
theorem sortedF_of {F : List HeT} (h : WeakG (ltOf cmpFr) (F.map heZ)) : SortedF F := by
  refine pairwise_adj fun i hi => ?_
  have := h i (by simpa using hi)
  rw [ltFr_false] at this
  simpa [heZ] using this
theorem sortedT_of {F : List HeT} (h : WeakG (ltOf cmpTo) (F.map heZ)) : SortedT F := by
  refine pairwise_adj fun i hi => ?_
  have := h i (by simpa using hi)
  rw [ltTo_false] at this
  simpa [heZ] using this
theorem sortFr_h (base : Nat) (v : Value) (l : List HeT) (w : World) (hn : l.length ≤ 4194304) (h : HOwn w base v l) :
    Calls Try.prog 49 #[v, .func (.func 50) #[] #[]] w
      fun e w' => e = .returned (.tuple #[]) ∧ ∃ F, F.Perm l ∧ SortedF F ∧ HOwn w' base v F ∧ w.grownBy w' v.ownBlock :=
  (sortFr_own base v l w hn h).mono fun e w' ⟨he, S, hp, hs, ho, hg⟩ => by
    obtain ⟨F, rfl, hF⟩ := perm_heZ hp
    rw [List.length_map] at ho
    exact ⟨he, F, hF, sortedF_of hs, ho, hg⟩
theorem sortTo_h (base : Nat) (v : Value) (l : List HeT) (w : World) (hn : l.length ≤ 4194304) (h : HOwn w base v l) :
    Calls Try.prog 49 #[v, .func (.func 51) #[] #[]] w
      fun e w' => e = .returned (.tuple #[]) ∧ ∃ F, F.Perm l ∧ SortedT F ∧ HOwn w' base v F ∧ w.grownBy w' v.ownBlock :=
  (sortTo_own base v l w hn h).mono fun e w' ⟨he, S, hp, hs, ho, hg⟩ => by
    obtain ⟨F, rfl, hF⟩ := perm_heZ hp
    rw [List.length_map] at ho
    exact ⟨he, F, hF, sortedT_of hs, ho, hg⟩
theorem blk_grown {w w' : World} {b : Nat} {cs : Array Value} {t : TypeId} {row : Option Nat} (h : Blk w b cs t) (hg : w.grownBy w' row) (hne : some b ≠ row) : Blk w' b cs t := by
  have hlt := h.lt
  unfold Blk at *
  rw [hg.block b hlt hne]; exact h
theorem own_low {w : World} {base b' n size : Nat} {e : TypeId} {v : Value} {xs : List Value} (h : w.ownsRow base e size v n xs) (hb : b' ≤ base) : w.ownsRow b' e size v n xs := by
  obtain ⟨h1, h2 | ⟨g, cap, cur, hv, hg, hr⟩⟩ := h
  · exact ⟨h1, .inl h2⟩
  · exact ⟨h1, .inr ⟨g, cap, cur, hv, by omega, hr⟩⟩
theorem own_ge {w : World} {base n size : Nat} {e : TypeId} {v : Value} {xs : List Value} (h : w.ownsRow base e size v n xs) {g : Nat} (hg : v.ownBlock = some g) : base ≤ g ∧ g < w.heap.size := by
  obtain ⟨h1, ⟨rfl, _⟩ | ⟨g', cap, cur, rfl, hg', hc, hr⟩⟩ := h
  · cases hg
  · injection hg with hg
    subst hg
    exact ⟨hg', (Array.getElem?_eq_some_iff.1 hc).1⟩
theorem hown_slice {w : World} {base : Nat} {v : Value} {l : List HeT} (h : HOwn w base v l) : ∃ a c, v = .slice a l.length c := by
  obtain ⟨_, ⟨rfl, h0⟩ | ⟨g, cap, cur, rfl, _⟩⟩ := h
  · exact ⟨none, 0, by rw [h0]⟩
  · exact ⟨_, _, rfl⟩
set_option maxRecDepth 100000 in
set_option maxHeartbeats 4000000 in
theorem newBoard_any2 (n : Nat) (vf vh : Value) (fl : List Nat) (hl : List HeT) (w : World) (hf : GRow w vf (nsI fl)) (hh : HRow w vh (hl.map heZ)) (hn : hl.length ≤ 1048576) :
    Calls Try.prog 35 #[.agg #[.int .i64 (n : Nat), vf, vh]] w fun e w' => ∃ b F T, e = .returned (.pointer (some ⟨b, 0, none⟩)) ∧ BdI w' b w.heap.size n fl F T ∧ SortedF F ∧ F.Perm hl ∧ SortedT T ∧ T.Perm hl ∧ Below w.heap.size w w' ∧ ∃ vF vT, Blk w' b #[.int .i64 (n : Nat), vf, vF, vT] 85 := by
  obtain ⟨fa, fc, rfl⟩ := hf.slice
  obtain ⟨ha, hc, rfl⟩ := hh.slice
  obtain ⟨LF, hLF⟩ : ∃ n, n = (nsI fl).length := ⟨_, rfl⟩
  obtain ⟨LH, hLH⟩ : ∃ n, n = (hl.map heZ).length := ⟨_, rfl⟩
  rw [← hLF] at hf ⊢
  rw [← hLH] at hh ⊢
  have HF := Lib.hid hf
  have HH := Lib.hid hh
  clear hf hh
  obtain ⟨gS, hgS⟩ : ∃ g, g = w.heap.size := ⟨_, rfl⟩
  obtain ⟨W, hW⟩ : ∃ W, W = w.alloc (.cells #[.int .i64 n, .slice fa LF fc, .slice ha LH hc] 25) := ⟨_, rfl⟩
  have HBW : Hid (Below w.heap.size w W) := by unfold Hid; rw [hW]; exact (Below.refl _ _).alloc (Nat.le_refl _) _
  have HSc : Hid (Blk W gS #[.int .i64 n, .slice fa LF fc, .slice ha LH hc] 25) := by unfold Hid; rw [hW, hgS]; exact Blk.new w _ _
  have s0 := HSc.out.cell 0
  have s1 := HSc.out.cell 1
  have s2 := HSc.out.cell 2
  simp at s0 s1 s2
  obtain ⟨LL, hLL⟩ : ∃ n, n = hl.length := ⟨_, rfl⟩
  have HLL := Lib.hid hLL
  clear hLL
  have CL : Hid (∀ w', (w'.cell? ⟨gS, 0, none⟩ = some (.int .i64 (n : Nat)) ∧ w'.cell? ⟨gS, 1, none⟩ = some (.slice fa LF fc) ∧ w'.cell? ⟨gS, 2, none⟩ = some (.slice ha LH hc) ∧ Below W.heap.size W w') → Calls Try.prog 48 #[.slice ha LH hc] w' fun e w'' => ∃ a c, e = .returned (.slice a LL c) ∧ Hid (HOwn w'' w'.heap.size (.slice a LL c) hl) ∧ Below w'.heap.size w' w'' ∧
      (w''.cell? ⟨gS, 0, none⟩ = some (.int .i64 (n : Nat)) ∧ w''.cell? ⟨gS, 1, none⟩ = some (.slice fa LF fc) ∧ w''.cell? ⟨gS, 2, none⟩ = some (.slice ha LH hc) ∧ Below W.heap.size W w'')) := fun w' hs => by
    have hH : HRow w' (.slice ha LH hc) (hl.map heZ) := (HH.out.kept HBW.out).kept hs.2.2.2
    exact (cloneHe_any _ hl w' hn hH).mono fun e w'' ⟨v, h1, h2, h3⟩ => by
      obtain ⟨a, c, rfl⟩ := hown_slice h2
      exact ⟨a, c, by rw [HLL.out]; exact h1, by rw [HLL.out]; exact h2, h3, cell_next h3 hs.1, cell_next h3 hs.2.1, cell_next h3 hs.2.2.1, below_next h3 hs.2.2.2⟩
  have HN : Hid (hl.length ≤ 4194304) := by unfold Hid; omega
  have HF0 := Lib.hid HF.out
  clear hn hLF hLH HLL
  go_enter Try.func35, Try.ntmps35
  go_upto_region 1 with fail
  rw [← hW, ← hgS]
  clear hW hgS
  go_region_held3 (fun w' => w'.cell? ⟨gS, 0, none⟩ = some (.int .i64 (n : Nat)) ∧ w'.cell? ⟨gS, 1, none⟩ = some (.slice fa LF fc) ∧ w'.cell? ⟨gS, 2, none⟩ = some (.slice ha LH hc) ∧ Below W.heap.size W w')
    (first
      | assumption
      | exact ⟨s0, s1, s2, Below.refl _ _⟩
      | exact ⟨s0, s1, s2, (Below.refl _ _).drew⟩
      | (rcases ‹_ ∧ _ ∧ _ ∧ Below W.heap.size _ _› with ⟨s0, s1, s2, s3⟩; exact ⟨s0, s1, s2, s3.drew⟩)
      | (rcases ‹_ ∧ _ ∧ _ ∧ Below W.heap.size _ _› with ⟨s0, s1, s2, s3⟩; exact ⟨Lib.cell?_alloc_some _ s0, Lib.cell?_alloc_some _ s1, Lib.cell?_alloc_some _ s2, s3.alloc s3.size _⟩))
    (first
      | (go_at_call 48; ((with_reducible refine (CL.out _ (by assumption)).mono ?_); rintro e wo ⟨ao, co, rfl, ho, hb, hSo⟩)))
  all_goals
    rename_i w1 a1 c1 ho1 hb1 hSo1 hHd
    have hsz0 := HBW.out.size
    have hszW : W.heap.size ≤ w1.heap.size := hSo1.2.2.2.size
    have hszo : W.heap.size ≤ wo.heap.size := hSo.2.2.2.size
    obtain ⟨b, hbn⟩ : ∃ b, b = wo.heap.size := ⟨_, rfl⟩
    obtain ⟨W3, hW3⟩ : ∃ x, x = wo.alloc (Obj.cells #[Value.int IntKind.i64 ↑n, Value.slice fa LF fc, Value.slice a1 LL c1, Value.slice ao LL co] 85) := ⟨_, rfl⟩
    have HB : Hid (Blk W3 b #[Value.int IntKind.i64 ↑n, Value.slice fa LF fc, Value.slice a1 LL c1, Value.slice ao LL co] 85) := by unfold Hid; rw [hW3, hbn]; exact Blk.new _ _ _
    have hbel : Below wo.heap.size wo W3 := by rw [hW3]; exact (Below.refl _ _).alloc (Nat.le_refl _) _
    have o1 : HOwn W3 w.heap.size (.slice a1 LL c1) hl := own_low (own_older (own_older ho1.out hb) hbel) hsz0
    have o2 : HOwn W3 w.heap.size (.slice ao LL co) hl := own_low (own_older ho.out hbel) (by omega)
    have hne : ∀ g, (Value.slice a1 LL c1).ownBlock = some g → (Value.slice ao LL co).ownBlock ≠ some g := fun g h1 h2 => by
      have e1 := own_ge ho1.out h1
      have e2 := own_ge ho.out h2
      omega
    have hn1 : (Value.slice a1 LL c1).ownBlock ≠ some b := fun h => by
      have e1 := own_ge ho1.out h
      have := hb.size
      omega
    have hn2 : (Value.slice ao LL co).ownBlock ≠ some b := fun h => by
      have e1 := own_ge ho.out h
      omega
    have HB3 : Hid (Below w.heap.size w W3) := HBW.out.trans (by rw [hW3] at *; exact (hHd.2.2.2).mono hsz0)
    have HFR : Hid (GRow W3 (.slice fa LF fc) (nsI fl)) := HF.out.kept HB3.out
    have hbw : Hid (w.heap.size ≤ b) := by unfold Hid; omega
    rw [← hW3, ← hbn]
    have SF := Lib.hid (sortFr_h _ _ hl W3 HN.out o1)
    have HO2 := Lib.hid o2
    have HNE := Lib.hid hne
    have HN1 := Lib.hid hn1
    have HN2 := Lib.hid hn2
    have m2 := HB.out.cell 2
    simp at m2
    clear hne hn1 hn2 o1 o2 hbel hW3 hbn hszo hszW hsz0 hHd hSo1 hSo hb ho hb1 ho1 s0 s1 s2 CL HF HH HSc
    go_wp2_with fail
    refine SF.out.mono ?_; rintro e w4 ⟨rfl, F, hpF, hsF, hoF, hgF⟩
    have HB4 : Hid (Blk w4 b _ _) := blk_grown HB.out hgF (Ne.symm HN1.out)
    have HOF := Lib.hid hoF
    have HO4 : Hid (HOwn w4 w.heap.size (.slice ao LL co) hl) := HO2.out.kept hgF (by
      cases h : (Value.slice a1 LL c1).ownBlock with
      | none => cases h2 : (Value.slice ao LL co).ownBlock <;> simp
      | some g => exact .inr (HNE.out g h))
    have HBL4 : Hid (Below w.heap.size w w4) := HB3.out.grown hgF HB3.out.size (fun j hj => (own_ge hoF hj).1)
    have HPF := Lib.hid hpF
    have HSF := Lib.hid hsF
    clear hgF hoF m2 SF HO2 hpF hsF
    have ST := Lib.hid (sortTo_h _ _ hl w4 HN.out HO4.out)
    have m3 := HB4.out.cell 3
    simp at m3
    go_wp2_with fail
    refine ST.out.mono ?_; rintro e w5 ⟨rfl, T, hpT, hsT, hoT, hgT⟩
    have HB5 : Hid (Blk w5 b _ _) := blk_grown HB4.out hgT (Ne.symm HN2.out)
    have HO5 : Hid (HOwn w5 w.heap.size (.slice a1 LL c1) F) := HOF.out.kept hgT (by
      cases h : (Value.slice a1 LL c1).ownBlock with
      | none => exact .inl rfl
      | some g => exact .inr (Ne.symm (HNE.out g h)))
    have HBL5 : Hid (Below w.heap.size w w5) := HBL4.out.grown hgT HBL4.out.size (fun j hj => (own_ge hoT hj).1)
    have HOT := Lib.hid hoT
    clear hgT hoT m3 ST
    go_wp2_with fail
    go_ret
    exact ⟨b, F, T, rfl, ⟨_, _, _, HB5.out, hbw.out, (HF0.out.kept HBL5.out), HO5.out, HOT.out, HN1.out, HN2.out, HNE.out⟩, HSF.out, HPF.out, hsT, hpT, HBL5.out, _, _, HB5.out⟩
theorem newBoard_any (n : Nat) (vf vh : Value) (fl : List Nat) (hl : List HeT) (w : World) (hf : GRow w vf (nsI fl)) (hh : HRow w vh (hl.map heZ)) (hn : hl.length ≤ 1048576) :
    Calls Try.prog 35 #[.agg #[.int .i64 (n : Nat), vf, vh]] w fun e w' => ∃ b F T, e = .returned (.pointer (some ⟨b, 0, none⟩)) ∧ BdI w' b w.heap.size n fl F T ∧ SortedF F ∧ F.Perm hl ∧ SortedT T ∧ T.Perm hl ∧ Below w.heap.size w w' :=
  (newBoard_any2 n vf vh fl hl w hf hh hn).mono fun e w' ⟨b, F, T, h1, h2, h3, h4, h5, h6, h7, _⟩ => ⟨b, F, T, h1, h2, h3, h4, h5, h6, h7⟩
end

section
open Go Go.RowKit Go.Lib Go.Sort
/-- What keeps block i from being free, by the failed ones and the first k that are held. -/
def mkF (fl : List Nat) (F : List HeT) (q a b k i : Nat) : Nat := markK fl q fl.length i + markH (F.take k) q a b i
theorem mkF_zero (fl : List Nat) (F : List HeT) (q a b : Nat) : mkF fl F q a b 0 = markK fl q fl.length := by funext i; unfold mkF markH; simp
theorem mkF_hit {fl : List Nat} {F : List HeT} {q a b k : Nat} (h : k < F.length) (hk : keeps F[k] a b = true) : mkF fl F q a b (k + 1) = hitC (mkF fl F q a b k) F[k].1 F[k].2.1 q := by
  funext i
  unfold mkF markH hitC
  rw [List.take_add_one, List.getElem?_eq_getElem h, List.countP_append]
  by_cases hm : meetB F[k].1 F[k].2.1 (i * 2 ^ q) q = true
  · rw [if_pos hm]; simp [hm, hk]; omega
  · rw [if_neg hm]; simp [hm]
theorem mkF_skip {fl : List Nat} {F : List HeT} {q a b k : Nat} (h : k < F.length) (hk : keeps F[k] a b = false) : mkF fl F q a b (k + 1) = mkF fl F q a b k := by
  funext i
  unfold mkF markH
  rw [List.take_add_one, List.getElem?_eq_getElem h, List.countP_append]
  simp [hk]
theorem mkF_le (fl : List Nat) (F : List HeT) (q a b k i : Nat) : mkF fl F q a b k i ≤ fl.length + F.length := by
  unfold mkF markH
  have h1 := markK_le fl q fl.length i
  have h2 : (F.take k).countP (fun h => keeps h a b && meetB h.1 h.2.1 (i * 2 ^ q) q) ≤ (F.take k).length := List.countP_le_length
  rw [List.length_take] at h2
  omega
theorem mkF_all (fl : List Nat) (F : List HeT) (n q a b i : Nat) : mkF fl F q a b F.length i = markF ⟨n, fl, F⟩ q i + markH F q a b i := by
  unfold mkF markK markF
  rw [List.take_length, List.take_length]
/-- What at answers. -/
def atV (c : Sc) (q a b : Nat) : Int × Bool := match firstB c q a b with | some s => ((s : Int), true) | none => (0, false)
theorem firstV_at (fl : List Nat) (F : List HeT) (n q a b : Nat) : firstV q (2 ^ (n - q)) (mkF fl F q a b F.length) = atV ⟨n, fl, F⟩ q a b := by
  unfold firstV atV firstB
  have e : (fun i => decide (mkF fl F q a b F.length i = 0)) = fun i => freeB ⟨n, fl, F⟩ (i * 2 ^ q) q a b := by
    funext i
    rw [Bool.eq_iff_iff, decide_eq_true_eq, mkF_all fl F n, ← mark_zero]
  rw [e]
  cases leastP (fun i => freeB ⟨n, fl, F⟩ (i * 2 ^ q) q a b) (2 ^ (n - q)) <;> rfl
/-- The order of what is held does not matter. -/
theorem freeB_perm {n : Nat} {fl : List Nat} {F G : List HeT} (h : F.Perm G) (s o a b : Nat) : freeB ⟨n, fl, F⟩ s o a b = freeB ⟨n, fl, G⟩ s o a b := by
  unfold freeB
  dsimp only
  congr 1
  rw [Bool.eq_iff_iff, List.all_eq_true, List.all_eq_true]
  exact ⟨fun hh x hx => hh x (h.mem_iff.2 hx), fun hh x hx => hh x (h.mem_iff.1 hx)⟩
theorem firstB_perm {n : Nat} {fl : List Nat} {F G : List HeT} (h : F.Perm G) (q a b : Nat) : firstB ⟨n, fl, F⟩ q a b = firstB ⟨n, fl, G⟩ q a b := by
  unfold firstB
  have e : (fun i => freeB ⟨n, fl, F⟩ (i * 2 ^ q) q a b) = fun i => freeB ⟨n, fl, G⟩ (i * 2 ^ q) q a b := funext fun i => freeB_perm h _ _ _ _
  rw [e]
theorem hrow_none {w : World} {n c : Nat} {l : List HeT} (h : HRow w (.slice none n c) (l.map heZ)) : l = [] := by
  rcases h with ⟨h0, x, c, _⟩ | ⟨bb, off, c, h1, _⟩
  · simpa using h0
  · cases h1
theorem hrow_some {w : World} {n c : Nat} {A : Addr} {l : List HeT} (h : HRow w (.slice (some A) n c) (l.map heZ)) (hk : 0 < l.length) : ∃ bb off, A = ⟨bb, off, none⟩ := by
  rcases h with ⟨h0, x, c, _⟩ | ⟨bb, off, c, h1, _⟩
  · simp at h0; subst h0; simp at hk
  · injection h1 with h1; injection h1 with h1; exact ⟨bb, off, h1⟩
/-- A block that is held, in a scene or in a plan: its end has more room. -/
def heOk2 (n : Nat) (h : HeT) : Prop := blkOk n h.1 h.2.1 ∧ h.2.2.1 < h.2.2.2 ∧ h.2.2.2 ≤ 4503599627370496
theorem heOk.two {n : Nat} {h : HeT} (k : heOk n h) : heOk2 n h := ⟨k.1, k.2.1, by have := k.2.2; unfold endT at this; omega⟩
set_option maxRecDepth 100000 in
set_option maxHeartbeats 4000000 in
theorem at_any (bd B0 n q a b : Nat) (fl : List Nat) (F T : List HeT) (w : World) (hb : BdI w bd B0 n fl F T) (hn : n ≤ 10) (hq : q ≤ n) (hfl : ∀ x ∈ fl, x < 2 ^ n) (hfn : fl.length ≤ 1024) (hF : ∀ h ∈ F, heOk2 n h) (hFl : F.length ≤ 1024) (ha : a < 9223372036854775808) (hbb : b < 9223372036854775808) :
    Calls Try.prog 36 #[.pointer (some ⟨bd, 0, none⟩), .int .i64 (q : Nat), .int .i64 (a : Nat), .int .i64 (b : Nat)] w fun e w' => e = .returned (.tuple #[.int .i64 (atV ⟨n, fl, F⟩ q a b).1, .bool (atV ⟨n, fl, F⟩ q a b).2]) ∧ Below w.heap.size w w' := by
  have NM := Lib.hid (newMarks_any bd B0 n q fl F T w hb hn hq hfl hfn)
  rw [← firstV_at]
  obtain ⟨vf, vF, vT, h1, h2, h3, h4, h5, h6, h7, h8⟩ := hb
  obtain ⟨N, hN⟩ : ∃ N, N = 2 ^ (n - q) := ⟨_, rfl⟩
  rw [← hN] at NM ⊢
  have hNq : N * 2 ^ q = 2 ^ n := by rw [hN, ← Nat.pow_add]; congr 1; omega
  have hp := pow_1024 hn
  have hN1 : N ≤ 1024 := Nat.le_trans (Nat.le_mul_of_pos_right N (two_pos q)) (by rw [hNq]; exact hp)
  have HHE : Hid (∀ h ∈ F, h.2.1 ≤ 10 ∧ h.1 < 4096 ∧ (h.1 + 2 ^ h.2.1 - 1) / 2 ^ q < N) := fun h hh => by
    obtain ⟨⟨e1, e2, e3⟩, _⟩ := hF h hh
    refine ⟨by omega, by have := two_pos h.2.1; omega, ?_⟩
    rw [hN]; exact hit_lt hq e3
  have HR := Lib.hid (hrow_of_own h4)
  obtain ⟨fa, fc, rfl⟩ := own_slice h4
  have HB := Lib.hid h1
  obtain ⟨LF, hLF⟩ : ∃ x, x = F.length := ⟨_, rfl⟩
  rw [← hLF] at HR HB hFl
  have HLF := Lib.hid hLF
  have HFN := Lib.hid hfn
  have HNQ : Hid (N * 2 ^ q ≤ 1024) := by unfold Hid; omega
  have e0 := mkF_zero fl F q a b
  rw [← e0] at NM
  have hq10 : q ≤ 10 := by omega
  clear h1 h2 h3 h4 h5 h6 h7 h8 hF hfl hN hNq hp hLF hfn e0
  go_enter Try.func36, Try.ntmps36
  go_wp2_with fail
  refine NM.out.mono ?_; rintro e w1 ⟨m, rfl, hm1, hb1⟩
  have HM1 := Lib.hid hm1
  have HB1 := Lib.hid hb1
  have m2 := (HB.out.kept hb1).cell 2
  simp at m2
  clear hm1 hb1 NM
  go_wp2_with fail
  go_loopw [21] (fun iv wr => ∃ k : Nat, k ≤ LF ∧ iv = .int .i64 k ∧ Hid (MI wr m w.heap.size q N (mkF fl F q a b k)) ∧ Hid (Below w.heap.size w wr)) (fun iv _ => LF - (RowKit.intOf iv).toNat)
  case atStart => exact ⟨0, Nat.zero_le _, rfl, HM1, HB1⟩
  case round =>
    obtain ⟨k, hk, rfl, HM, HBr⟩ := hrel
    by_cases hlt : k < LF
    · have hd : decide (k < LF) = true := decide_eq_true hlt
      have hki : (k : Int) < (LF : Int) := by omega
      have hkl : k < F.length := by rw [← HLF.out]; exact hlt
      cases fa with
      | none => have := hrow_none HR.out; rw [this] at hkl; simp at hkl
      | some A =>
      obtain ⟨bb, off, rfl⟩ := hrow_some HR.out (by omega)
      obtain ⟨c0, c1, c2, c3⟩ := he_cells HR.out hkl HBr.out
      have HX := HHE.out _ (List.getElem_mem hkl)
      have HIT : Hid (keeps F[k] a b = true → _) := fun h => mkF_hit (fl := fl) (q := q) hkl h
      have HSK : Hid (keeps F[k] a b = false → _) := fun h => mkF_skip (fl := fl) (q := q) hkl h
      have hC : Hid (∀ i, i < N → mkF fl F q a b k i ≤ 100000) := fun i _ => by have := mkF_le fl F q a b k i; have := HFN.out; have := HLF.out; omega
      obtain ⟨x, hx⟩ : ∃ x, x = F[k] := ⟨_, rfl⟩
      rw [← hx] at c0 c1 c2 c3 HX HIT HSK
      obtain ⟨s, o, f, t⟩ := x
      dsimp only at c0 c1 c2 c3 HX HIT HSK
      obtain ⟨ho10, hs4096, hhit⟩ := HX
      clear hx hkl
      obtain ⟨W, hW⟩ : ∃ W, W = wr.alloc (.cells #[.int .i64 (s : Nat), .int .i64 (o : Nat), .int .i64 (f : Nat), .int .i64 (t : Nat)] 57) := ⟨_, rfl⟩
      have hBW : Below wr.heap.size wr W := by rw [hW]; exact (Below.refl _ _).alloc (Nat.le_refl _) _
      have HXB := Blk.new wr #[.int .i64 (s : Nat), .int .i64 (o : Nat), .int .i64 (f : Nat), .int .i64 (t : Nat)] 57
      rw [← hW] at HXB
      obtain ⟨g, hg⟩ : ∃ g, g = wr.heap.size := ⟨_, rfl⟩
      rw [← hg] at HXB
      have HMW := Lib.hid (HM.out.kept hBW)
      have HBW : Hid (Below w.heap.size w W) := HBr.out.trans (hBW.mono HBr.out.size)
      have h0 := HXB.cell 0
      have h1 := HXB.cell 1
      have h2 := HXB.cell 2
      have h3 := HXB.cell 3
      simp at h0 h1 h2 h3
      have hgW := HXB.lt
      clear HXB hBW
      go_upto_region 5 with fail
      rw [← hW, ← hg]
      clear hW hg c0 c1 c2 c3 HM HBr
      by_cases c1 : f < b
      · have d1 : decide (f < b) = true := decide_eq_true c1
        have d2 : decide ((f : Int) < (b : Int)) = true := decide_eq_true (by omega)
        by_cases c2 : a < t
        · have d3 : decide (a < t) = true := decide_eq_true c2
          have d4 : decide ((t : Int) > (a : Int)) = true := decide_eq_true (by omega)
          have hst := HIT.out (by unfold keeps; dsimp only; rw [d1, d3]; rfl)
          have AH := Lib.hid (add_hit m w.heap.size q N s o (mkF fl F q a b k) W HMW.out (by omega) ho10 hs4096 hC.out hhit hN1)
          rw [← hst] at AH
          clear hst HIT HSK hhit
          go_wp2_with fail
          refine AH.out.mono ?_; rintro e w2 ⟨rfl, hm2, b2⟩
          have HM2 := Lib.hid hm2
          have HB2 : Hid (Below w.heap.size w w2) := HBW.out.trans b2
          clear hm2 b2 AH
          go_wp2_with fail
          go_roundw
          case rel => exact ⟨k + 1, hlt, by go_num, HM2, HB2⟩
          case measure => simp [RowKit.intOf]; omega
        · have d3 : decide (a < t) = false := decide_eq_false c2
          have d4 : decide ((t : Int) > (a : Int)) = false := decide_eq_false (by omega)
          have hst := HSK.out (by unfold keeps; dsimp only; rw [d1, d3]; rfl)
          rw [← hst] at HMW
          clear hst HIT HSK hhit
          go_wp2_with fail
          go_roundw
          case rel => exact ⟨k + 1, hlt, by go_num, HMW, HBW⟩
          case measure => simp [RowKit.intOf]; omega
      · have d1 : decide (f < b) = false := decide_eq_false c1
        have d2 : decide ((f : Int) < (b : Int)) = false := decide_eq_false (by omega)
        have hst := HSK.out (by unfold keeps; dsimp only; rw [d1]; rfl)
        rw [← hst] at HMW
        clear hst HIT HSK hhit
        go_wp2_with fail
        go_roundw
        case rel => exact ⟨k + 1, hlt, by go_num, HMW, HBW⟩
        case measure => simp [RowKit.intOf]; omega
    · have hd : decide (k < LF) = false := decide_eq_false hlt
      have hki : ¬ (k : Int) < (LF : Int) := by omega
      have hke : k = F.length := by rw [← HLF.out]; omega
      have FI := Lib.hid (first_any m w.heap.size q N (mkF fl F q a b k) wr HM.out hq10 HNQ.out)
      rw [hke] at FI
      clear hlt hk hke
      obtain ⟨⟨r1, r2⟩, hr⟩ : ∃ r, r = firstV q N (mkF fl F q a b F.length) := ⟨_, rfl⟩
      rw [← hr] at FI
      have HRR := Lib.hid hr
      clear hr
      dsimp only at FI
      go_wp2_with fail
      refine FI.out.mono ?_; rintro e w2 ⟨rfl, b2⟩
      have HB2 : Hid (Below w.heap.size w w2) := HBr.out.trans (b2.mono HBr.out.size)
      clear b2 FI
      go_wp2_with fail
      go_ret2
      exact ⟨by rw [← HRR.out]; rfl, HB2.out⟩
end

section
open Go Go.RowKit Go.Lib Go.Sort
def endsB (T : List HeT) : List Nat := T.map fun h => h.2.2.2
theorem tks_drop {B : List Nat} {k x : Nat} (h : k < B.length) : tks (B.drop k) x = if x < B[k] then x :: tks (B.drop (k + 1)) B[k] else tks (B.drop (k + 1)) x := by
  rw [List.drop_eq_getElem_cons h]; rfl
theorem tks_end {B : List Nat} {x : Nat} : tks (B.drop B.length) x = [x] := by rw [List.drop_length]; rfl
theorem own_some {w : World} {base size n : Nat} {e : TypeId} {v : Value} {xs : List Value} (h : w.ownsRow base e size v (n + 1) xs) : ∃ g c, v = .slice (some ⟨g, 0, none⟩) (n + 1) c := by
  obtain ⟨_, ⟨rfl, h0⟩ | ⟨g, cap, cur, rfl, _⟩⟩ := h
  · omega
  · exact ⟨_, _, rfl⟩
set_option maxRecDepth 100000 in
set_option maxHeartbeats 4000000 in
theorem ticks_any (bd B0 n a : Nat) (fl : List Nat) (F T : List HeT) (w : World) (hb : BdI w bd B0 n fl F T) (hTl : T.length ≤ 1024) :
    Calls Try.prog 56 #[.pointer (some ⟨bd, 0, none⟩), .int .i64 (a : Nat)] w fun e w' => ∃ v, e = .returned v ∧ NOwn w' w.heap.size v (nsI (tks (endsB T) a)) ∧ Below w.heap.size w w' := by
  obtain ⟨i0, hi, hz0, hz1, hz2⟩ := info_parts Try.infoNum
  obtain ⟨vf, vF, vT, h1, h2, h3, h4, h5, h6, h7, h8⟩ := hb
  have HR := Lib.hid (hrow_of_own h5)
  obtain ⟨fa, fc, rfl⟩ := own_slice h5
  have HB := Lib.hid h1
  obtain ⟨LT, hLT⟩ : ∃ x, x = T.length := ⟨_, rfl⟩
  rw [← hLT] at HR HB hTl
  have HLT := Lib.hid hLT
  obtain ⟨W0, hW0⟩ : ∃ W0, W0 = w.alloc (.cells #[.int .i64 (a : Nat)] 3) := ⟨_, rfl⟩
  have hB0 : Below w.heap.size w W0 := by rw [hW0]; exact (Below.refl _ _).alloc (Nat.le_refl _) _
  have HO0 : Hid (NOwn W0 w.heap.size (.slice (some ⟨w.heap.size, 0, none⟩) 1 1) (nsI ([] ++ [a]))) := by
    have hb := Blk.new w #[.int .i64 (a : Nat)] 3
    rw [← hW0] at hb
    exact ⟨rfl, .inr ⟨w.heap.size, 1, #[.int .i64 (a : Nat)], rfl, Nat.le_refl _, hb, Nat.le_refl _, by unfold maxLen; omega, rfl, rfl⟩⟩
  have HB0 := Lib.hid hB0
  have m3 := (HB.out.kept hB0).cell 3
  simp at m3
  obtain ⟨g0, hg0⟩ : ∃ g0, g0 = w.heap.size := ⟨_, rfl⟩
  clear h1 h2 h3 h4 h5 h6 h7 h8 hLT hB0
  go_enter Try.func56, Try.ntmps56
  go_upto_region 2 with fail
  rw [← hW0]
  clear hW0
  go_wp2_with fail
  rw [← hg0] at HO0 ⊢
  have HG0 := Lib.hid hg0
  clear hg0 m3
  go_loopw [5, 15] (fun lv iv wr => ∃ (k P x ga gc : Nat) (pre : List Nat), k ≤ LT ∧ P ≤ k ∧ iv = .int .i64 k ∧ lv = .slice (some ⟨ga, 0, none⟩) (P + 1) gc ∧ Hid (P = pre.length) ∧ Hid (tks (endsB T) a = pre ++ tks ((endsB T).drop k) x) ∧ Hid (NOwn wr w.heap.size (.slice (some ⟨ga, 0, none⟩) (P + 1) gc) (nsI (pre ++ [x]))) ∧ Hid (Below w.heap.size w wr)) (fun _ iv _ => LT - (RowKit.intOf iv).toNat)
  case atStart => exact ⟨0, 0, a, g0, 1, [], Nat.zero_le _, Nat.le_refl _, rfl, rfl, rfl, rfl, by have h := HO0.out; rw [HG0.out] at h ⊢; exact h, HB0⟩
  case round =>
    obtain ⟨k, P, x, ga, gc, pre, hk, hPk, rfl, rfl, HP, HT, HO, HBr⟩ := hrel
    by_cases hlt : k < LT
    · have hd : decide (k < LT) = true := decide_eq_true hlt
      have hki : (k : Int) < (LT : Int) := by omega
      have hkl : k < T.length := by rw [← HLT.out]; exact hlt
      cases fa with
      | none => have := hrow_none HR.out; rw [this] at hkl; simp at hkl
      | some A =>
      obtain ⟨bb, off, rfl⟩ := hrow_some HR.out (by omega)
      obtain ⟨c0, c1, c2, c3⟩ := he_cells HR.out hkl HBr.out
      have hke : k < (endsB T).length := by unfold endsB; simpa using hkl
      have HD := Lib.hid (tks_drop (x := x) hke)
      have hee : (endsB T)[k] = T[k].2.2.2 := List.getElem_map ..
      rw [hee] at HD
      have hpl : P < (nsI (pre ++ [x])).length := by rw [nsI_len, List.length_append, HP.out]; simp
      obtain ⟨cl, _, _, _⟩ := nown_cell HO.out hpl
      have hpx : (nsI (pre ++ [x])).getD P 0 = (x : Int) := by
        rw [nsI_at (by rw [List.length_append, HP.out]; simp)]
        congr 1
        rw [List.getElem_append_right (by rw [HP.out]; exact Nat.le_refl _)]
        simp [HP.out]
      rw [hpx] at cl
      obtain ⟨y, hy⟩ : ∃ y, y = T[k] := ⟨_, rfl⟩
      rw [← hy] at c0 c1 c2 c3 HD
      obtain ⟨s, o, f, t⟩ := y
      dsimp only at c0 c1 c2 c3 HD
      clear hy hkl hke hee hpl hpx
      obtain ⟨W, hW⟩ : ∃ W, W = wr.alloc (.cells #[.int .i64 (s : Nat), .int .i64 (o : Nat), .int .i64 (f : Nat), .int .i64 (t : Nat)] 57) := ⟨_, rfl⟩
      have hBW : Below wr.heap.size wr W := by rw [hW]; exact (Below.refl _ _).alloc (Nat.le_refl _) _
      have HXB := Blk.new wr #[.int .i64 (s : Nat), .int .i64 (o : Nat), .int .i64 (f : Nat), .int .i64 (t : Nat)] 57
      rw [← hW] at HXB
      obtain ⟨g, hg⟩ : ∃ g, g = wr.heap.size := ⟨_, rfl⟩
      rw [← hg] at HXB
      have HBW : Hid (Below w.heap.size w W) := HBr.out.trans (hBW.mono HBr.out.size)
      have HOW : Hid (NOwn W w.heap.size (.slice (some ⟨ga, 0, none⟩) (P + 1) gc) (nsI (pre ++ [x]))) := own_older HO.out hBW
      have h0 := HXB.cell 0
      have h1 := HXB.cell 1
      have h2 := HXB.cell 2
      have h3 := HXB.cell 3
      simp at h0 h1 h2 h3
      replace cl := cell_next hBW cl
      have hgW := HXB.lt
      have HXH := Lib.hid HXB
      have hP63 : P ≤ 1024 := by omega
      have hP1 : ((P + 1 : Nat) : Int) - 1 = (P : Int) := by omega
      clear HXB hBW
      go_upto_region 5 with fail
      rw [← hW, ← hg]
      clear hW hg c0 c1 c2 c3 HO HBr
      by_cases hx : x < t
      · have hxi : (x : Int) < (t : Int) := by omega
        have hd2 : decide ((t : Int) > (x : Int)) = true := decide_eq_true (by omega)
        have hd3 : decide (t > x) = true := decide_eq_true hx
        rw [if_pos hx] at HD
        go_region
        obtain ⟨W2, hW2⟩ : ∃ W2, W2 = W.drew := ⟨_, rfl⟩
        rw [← hW2]
        have hb2 : Below W.heap.size W W2 := by rw [hW2]; exact (Below.refl _ _).drew
        have HOW2 : Hid (NOwn W2 w.heap.size (.slice (some ⟨ga, 0, none⟩) (P + 1) gc) (nsI (pre ++ [x]))) := own_older HOW.out hb2
        have HBW2 : Hid (Below w.heap.size w W2) := HBW.out.trans (hb2.mono HBW.out.size)
        have h3' := cell_next hb2 h3
        have HNEW : Hid (∀ q u, ([Value.int .i64 (t : Int)])[q]? = some u → (W2.alloc (.cells #[.int .i64 (t : Int)] 3)).cell? ((⟨W2.heap.size, 0, none⟩ : Addr).add q) = some u) := news_alloc W2 [.int .i64 (t : Int)] 3
        have HOA : Hid ((W2.alloc (.cells #[.int .i64 (t : Int)] 3)).ownsRow w.heap.size 3 1 (.slice (some ⟨ga, 0, none⟩) (P + 1) gc) (P + 1) (numsL (nsI (pre ++ [x])))) := by
          have h := HOW2.out.alloc (.cells #[.int .i64 (t : Int)] 3)
          have e : (nsI (pre ++ [x])).length = P + 1 := by rw [nsI_len, List.length_append, HP.out]; rfl
          unfold NOwn at h
          rw [e] at h; exact h
        have hsz2 := HBW2.out.size
        clear hW2 hb2 h0 h1 h2 h3 cl
        go_wp2_with (at_builtin; refine wpList_append_own_at _ rfl _ _ 22 rfl w.heap.size 3 i0 _ 1 8 Try.underlying22 hi hz0 hz1 hz2 rfl (by decide) _ _ _ rfl HOA.out _ 1 1 [.int .i64 (t : Int)] rfl rfl HNEW.out (by intro u hu; simp at hu; subst hu; rfl) (by unfold maxLen; omega) (by omega) (by simp; omega) ?_; intro v5 w5 hown5 hgrow5 hnil5 hat5; clear hnil5 hat5; replace hgrow5 : _ ∧ _ := ⟨hgrow5, trivial⟩; obtain ⟨g5, c5, rfl⟩ := own_some hown5)
        go_roundw
        case measure => simp [RowKit.intOf]; omega
        case rel =>
          refine ⟨k + 1, P + 1, t, g5, c5, pre ++ [x], hlt, by omega, by go_num, rfl, ?_, ?_, ?_, ?_⟩
          · unfold Hid; rw [List.length_append, ← HP.out]; rfl
          · unfold Hid; rw [List.append_assoc]; have := HT.out; rw [HD.out] at this; exact this
          · unfold Hid NOwn
            have e : (nsI (pre ++ [x] ++ [t])).length = P + 1 + 1 := by rw [nsI_len, List.length_append, List.length_append, HP.out]; rfl
            have e2 : numsL (nsI (pre ++ [x] ++ [t])) = numsL (nsI (pre ++ [x])) ++ [Value.int .i64 (t : Int)] := by
              unfold nsI; rw [List.map_append, numsL_app]; rfl
            rw [e, e2]; exact hown5
          · have h1 := HBW2.out.alloc HBW2.out.size (.cells #[.int .i64 (t : Int)] 3)
            exact h1.grown hgrow5.1 (by simp; omega) (fun q hq => (own_ge HOA.out hq).1)
      · rw [if_neg hx] at HD
        have hxi : ¬ (x : Int) < (t : Int) := by omega
        have hd2 : decide ((t : Int) > (x : Int)) = false := decide_eq_false (by omega)
        have hd3 : decide (t > x) = false := decide_eq_false hx
        go_region
        go_wp2_with fail
        go_roundw
        case rel => exact ⟨k + 1, P, x, ga, gc, pre, hlt, by omega, by go_num, rfl, HP, by rw [← HD.out]; exact HT, own_older HOW.out (Below.refl _ _).drew, HBW.out.drew⟩
        case measure => simp [RowKit.intOf]; omega
    · have hd : decide (k < LT) = false := decide_eq_false hlt
      have hki : ¬ (k : Int) < (LT : Int) := by omega
      have hke : k = (endsB T).length := by unfold endsB; rw [List.length_map, ← HLT.out]; omega
      have HE : Hid (NOwn wr w.heap.size (.slice (some ⟨ga, 0, none⟩) (P + 1) gc) (nsI (tks (endsB T) a))) := by
        unfold Hid
        rw [HT.out, hke, tks_end]; exact HO.out
      clear hke hlt hk
      go_wp2_with fail
      go_ret
      exact ⟨_, rfl, HE.out, HBr.out⟩
end

end Go.Proofs.Ytioeblljabohbaa
