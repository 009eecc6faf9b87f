/-
  Taken and given back, plainly.
  A row of the law's own beside a yard.
-/
import Derived.Test.YtcdlfhheolbhaaaYeS
import Derived.Maps.AppendAt
namespace Go.Proofs.Ytcdlfhheolbhaaa
set_option linter.unusedVariables false

section
open Go Go.RowKit Go.Lib
/-- Without the blocks that begin at these. -/
def dropS (tk : List Bk) (S : List Nat) : List Bk := tk.filter fun b => !decide (b.1 ∈ S)
theorem dropS_nil (tk : List Bk) : dropS tk [] = tk := by unfold dropS; exact filter_all fun b _ => by simp
theorem giveT_drop (tk : List Bk) (S : List Nat) (s : Nat) : giveT (dropS tk S) (s : Int) = dropS tk (S ++ [s]) := by
  unfold giveT dropS
  rw [List.filter_filter]
  refine List.filter_congr fun b _ => ?_
  by_cases h1 : b.1 = s
  · simp [h1]
  · have : ¬ ((b.1 : Int) = (s : Int)) := by omega
    simp [h1, this]
theorem dropS_congr {tk : List Bk} {S T : List Nat} (h : ∀ s, s ∈ S ↔ s ∈ T) : dropS tk S = dropS tk T := by
  unfold dropS
  exact List.filter_congr fun b _ => by simp [h b.1]
/-- What was taken since: the starts, one behind the other. -/
structure TookR (n : Nat) (tk0 : List Bk) (fl : List Nat) (tk : List Bk) (S : List Nat) : Prop where
  back : dropS tk S = tk0
  has : ∀ s ∈ S, ∃ b ∈ tk, b.1 = s
  nd : S.Nodup
theorem TookR.zero (n : Nat) (tk : List Bk) (fl : List Nat) : TookR n tk fl tk [] := ⟨dropS_nil tk, fun s h => absurd h (by simp), List.Pairwise.nil⟩
theorem insT_filter (tk : List Bk) (b : Bk) (f : Bk → Bool) (hf : f b = false) : (insT tk b).filter f = tk.filter f := by
  unfold insT
  rw [List.filter_append, List.filter_cons_of_neg (by rw [hf]; simp), ← List.filter_append, List.takeWhile_append_dropWhile]
theorem TookR.step {n : Nat} {tk0 tk : List Bk} {fl S : List Nat} {o k s : Nat} {r : List Nat} (h : TookR n tk0 fl tk S) (hY : OkY n tk fl) (hs : frL n (opn n tk fl) k = s :: r) : TookR n tk0 fl (insT tk (s, o)) (S ++ [s]) := by
  have hF : isF n (opn n tk fl) k s := frL_mem.1 (by rw [hs]; simp)
  have hop := opn_iff.1 (hF.2.2.2.1 s (inB_self _ _))
  have hne : ∀ b ∈ tk, b.1 ≠ s := fun b hb e => by
    have := heldB_iff.2 ⟨b, hb, (show inB b.2 b.1 s from e ▸ inB_self b.2 b.1)⟩
    rw [hop.2.1] at this; cases this
  have hsS : s ∉ S := fun hm => by
    obtain ⟨b, hb, e⟩ := h.has s hm
    exact hne b hb e
  refine ⟨?_, fun x hx => ?_, ?_⟩
  · unfold dropS
    rw [insT_filter _ _ _ (by simp)]
    rw [← h.back]
    unfold dropS
    exact List.filter_congr fun b hb => by simp [hne b hb]
  · rcases List.mem_append.1 hx with hx | hx
    · obtain ⟨b, hb, e⟩ := h.has x hx
      exact ⟨b, mem_insT.2 (.inr hb), e⟩
    · simp at hx
      exact ⟨(s, o), mem_insT.2 (.inl rfl), hx.symm⟩
  · unfold List.Nodup at *
    rw [List.pairwise_append]
    refine ⟨h.nd, by simp, fun a ha b hb e => ?_⟩
    simp at hb
    exact hsS (by rw [← hb, ← e]; exact ha)
/-- The first j of a row, read from place t on, round. -/
def rotN (S : List Nat) (t j : Nat) : List Nat := (List.range j).map fun i => S.getD ((i + t) % S.length) 0
theorem rotN_succ (S : List Nat) (t j : Nat) : rotN S t (j + 1) = rotN S t j ++ [S.getD ((j + t) % S.length) 0] := by
  unfold rotN; rw [List.range_succ, List.map_append]; rfl
theorem nd_getD {S : List Nat} (h : S.Nodup) {i j : Nat} (hi : i < S.length) (hj : j < S.length) (e : S.getD i 0 = S.getD j 0) : i = j := by
  rw [List.getD_eq_getElem?_getD, List.getD_eq_getElem?_getD, List.getElem?_eq_getElem hi, List.getElem?_eq_getElem hj] at e
  rcases Nat.lt_trichotomy i j with hlt | he | hlt
  · exact absurd e (List.pairwise_iff_getElem.1 h i j hi hj hlt)
  · exact he
  · exact absurd e.symm (List.pairwise_iff_getElem.1 h j i hj hi hlt)
theorem mod_inj {n i j t : Nat} (hi : i < n) (hj : j < n) (e : (i + t) % n = (j + t) % n) : i = j := by
  have h1 := Nat.mod_add_div (i + t) n
  have h2 := Nat.mod_add_div (j + t) n
  rw [e] at h1
  rcases Nat.lt_trichotomy ((i + t) / n) ((j + t) / n) with h | h | h
  · have : n * ((i + t) / n) + n ≤ n * ((j + t) / n) := by
      have := Nat.mul_le_mul_left n (show (i + t) / n + 1 ≤ (j + t) / n by omega)
      rw [Nat.mul_add, Nat.mul_one] at this; exact this
    omega
  · rw [h] at h1; omega
  · have : n * ((j + t) / n) + n ≤ n * ((i + t) / n) := by
      have := Nat.mul_le_mul_left n (show (j + t) / n + 1 ≤ (i + t) / n by omega)
      rw [Nat.mul_add, Nat.mul_one] at this; exact this
    omega
theorem rot_new {S : List Nat} {t j : Nat} (h : S.Nodup) (hj : j < S.length) : S.getD ((j + t) % S.length) 0 ∉ rotN S t j := fun hm => by
  unfold rotN at hm
  obtain ⟨i, hi, e⟩ := List.mem_map.1 hm
  have hi' : i < j := List.mem_range.1 hi
  have hn : 0 < S.length := by omega
  have := nd_getD h (Nat.mod_lt _ hn) (Nat.mod_lt _ hn) e
  have := mod_inj (by omega) hj this
  omega
theorem rot_all {S : List Nat} {t : Nat} (ht : t < S.length) : ∀ s, s ∈ rotN S t S.length ↔ s ∈ S := fun s => by
  unfold rotN
  rw [List.mem_map]
  constructor
  · rintro ⟨i, hi, rfl⟩
    have hl : (i + t) % S.length < S.length := Nat.mod_lt _ (by omega)
    rw [List.getD_eq_getElem?_getD, List.getElem?_eq_getElem hl]
    exact List.getElem_mem hl
  · intro hs
    obtain ⟨k, hk, rfl⟩ := List.getElem_of_mem hs
    by_cases h : t ≤ k
    · refine ⟨k - t, List.mem_range.2 (by omega), ?_⟩
      rw [show k - t + t = k by omega, Nat.mod_eq_of_lt hk, List.getD_eq_getElem?_getD, List.getElem?_eq_getElem hk]; rfl
    · refine ⟨k + S.length - t, List.mem_range.2 (by omega), ?_⟩
      rw [show k + S.length - t + t = k + S.length by omega, Nat.add_mod_right, Nat.mod_eq_of_lt hk, List.getD_eq_getElem?_getD, List.getElem?_eq_getElem hk]; rfl
/-- The next one to be given back is still there; behind it, it is not. -/
theorem give_next {n : Nat} {tk0 tk : List Bk} {fl S : List Nat} {t j : Nat} (h : TookR n tk0 fl tk S) (hj : j < S.length) {er : Int} {tk' : List Bk} (hg : GiveR (dropS tk (rotN S t j)) ((S.getD ((j + t) % S.length) 0 : Nat) : Int) er tk') : er = 0 ∧ tk' = dropS tk (rotN S t (j + 1)) := by
  refine ⟨?_, by rw [hg.giveT, giveT_drop, rotN_succ]⟩
  cases hg with
  | none hno =>
    exfalso
    have hl : (j + t) % S.length < S.length := Nat.mod_lt _ (by omega)
    have hm : S.getD ((j + t) % S.length) 0 ∈ S := by
      rw [List.getD_eq_getElem?_getD, List.getElem?_eq_getElem hl]; exact List.getElem_mem hl
    obtain ⟨b, hb, e⟩ := h.has _ hm
    refine hno b ?_ (by rw [e])
    unfold dropS
    rw [List.mem_filter]
    refine ⟨hb, ?_⟩
    rw [e]; simp only [Bool.not_eq_true', decide_eq_false_iff_not]
    exact rot_new h.nd hj
  | ok _ _ _ => rfl
theorem give_twice {tk : List Bk} {S : List Nat} {t j : Nat} {er : Int} {tk' : List Bk} (hg : GiveR (dropS tk (rotN S t (j + 1))) ((S.getD ((j + t) % S.length) 0 : Nat) : Int) er tk') : er = 4 ∧ tk' = dropS tk (rotN S t (j + 1)) := by
  cases hg with
  | none _ => exact ⟨rfl, rfl⟩
  | ok b hb hq =>
    exfalso
    unfold dropS at hb
    rw [List.mem_filter] at hb
    have h1 := hb.2
    have e : b.1 = S.getD ((j + t) % S.length) 0 := by omega
    rw [e, rotN_succ] at h1
    simp at h1
end

section
open Go Go.RowKit Go.Lib
/-- A row that is not the yard's grows: the yard stays, and is apart from the row as it lies now. -/
theorem YI.apartRow {W w3 : World} {y : Nat} {own : Nat → Prop} {n : Nat} {op : Opn} {tk : List Bk} {fl : List Nat} (h : YI W y own n op tk fl) {v v1 : Value} (hg : W.grownBy w3 v.ownBlock) (hv : ∀ k, v.ownBlock = some k → ¬ own k)
    (hat : v1.ownBlock = v.ownBlock ∨ v1.ownBlock = some W.heap.size) (hlt : ∀ k, v1.ownBlock = some k → k < w3.heap.size) : YI w3 y (fun k => own k ∧ v1.ownBlock ≠ some k) n op tk fl := by
  obtain ⟨cs, q1, q2, q3⟩ := h
  have hno : ∀ k, k < W.heap.size → own k → v1.ownBlock ≠ some k := fun k hk ho e => by
    rcases hat with h1 | h1
    · rw [h1] at e; exact hv k e ho
    · rw [h1] at e; cases e; omega
  refine ⟨cs, ⟨q1.blk.grown hg (fun e => hv y e q1.bown), q1.sz, ⟨q1.bown, hno y q1.blk.lt q1.bown⟩, fun k hk => ⟨q1.new k (Nat.le_trans hg.size hk), fun e => by have := hlt k e; omega⟩, fun j j1 j2 => ?_, fun j u g j1 j2 hu hug => ?_, q1.apart⟩, q2, q3⟩
  · obtain ⟨u, m, hu, ho⟩ := q1.row j j1 j2
    refine ⟨u, m, hu, ho.kept hg ?_⟩
    cases hub : u.ownBlock with
    | none => exact .inl rfl
    | some g => exact .inr fun e => hv g e.symm (q1.ob j u g j1 j2 hu hub).1
  · obtain ⟨u', m, hu', ho⟩ := q1.row j j1 j2
    rw [hu] at hu'; cases hu'
    have h1 := (q1.ob j u g j1 j2 hu hug).1
    exact ⟨⟨h1, hno g (ho.lt g hug).2 h1⟩, (q1.ob j u g j1 j2 hu hug).2⟩
/-- The yard's calls leave a row alone that is not the yard's. -/
theorem own_chg {own : Nat → Prop} {w w' : World} {base size n : Nat} {e : TypeId} {v : Value} {xs : List Value} (h : w.ownsRow base e size v n xs) (hc : Chg own w w') (hv : ∀ k, v.ownBlock = some k → ¬ own k) : w'.ownsRow base e size v n xs := by
  refine ⟨h.1, ?_⟩
  rcases h.2 with hn | ⟨g, cap, cur, rfl, hb, hgg, rest⟩
  · exact .inl hn
  · exact .inr ⟨g, cap, cur, rfl, hb, by rw [hc.block g (Array.getElem?_eq_some_iff.1 hgg).1 (hv g rfl)]; exact hgg, rest⟩
theorem brow_chg {own : Nat → Prop} {w w' : World} {B : Nat} {v : Value} {l : List Bk} (h : BOwn w B v l) (hc : Chg own w w') (hv : ∀ k, v.ownBlock = some k → ¬ own k) : BOwn w' B v l := own_chg h hc hv
/-- Two rows and a growing one beside the yard. -/
def ownB (h0 : Nat) (va vb vc : Value) : Nat → Prop := fun k => h0 ≤ k ∧ va.ownBlock ≠ some k ∧ vb.ownBlock ≠ some k ∧ vc.ownBlock ≠ some k
theorem ownB_a {h0 : Nat} {va vb vc : Value} : ∀ k, va.ownBlock = some k → ¬ ownB h0 va vb vc k := fun k e h => h.2.1 e
theorem ownB_b {h0 : Nat} {va vb vc : Value} : ∀ k, vb.ownBlock = some k → ¬ ownB h0 va vb vc k := fun k e h => h.2.2.1 e
theorem ownB_c {h0 : Nat} {va vb vc : Value} : ∀ k, vc.ownBlock = some k → ¬ ownB h0 va vb vc k := fun k e h => h.2.2.2 e
theorem ownB_lo {h0 : Nat} {va vb vc : Value} : ∀ k, k < h0 → ¬ ownB h0 va vb vc k := fun k e h => by have := h.1; omega
/-- The yard, and two rows that were asked of it: both apart. -/
theorem YS.rows2 {w1 w3 : World} {h0 g n : Nat} {tk la lb : List Bk} {fl : List Nat} {va vb : Value} (hY : YS w1 g (fun k => h0 ≤ k) n tk fl) (hb : Below w1.heap.size w1 w3) (ha : BOwn w3 w1.heap.size va la) (hbb : BOwn w3 w1.heap.size vb lb) :
    YS w3 g (ownB h0 va vb (.slice none 0 0)) n tk fl := by
  refine ⟨hY.1, ?_⟩
  obtain ⟨cs, q1, q2, q3⟩ := hY.2
  have hin : ∀ k, k < w1.heap.size → h0 ≤ k → ownB h0 va vb (.slice none 0 0) k := fun k hk h => ⟨h, fun e => by have := (ha.lt k e).1; omega, fun e => by have := (hbb.lt k e).1; omega, fun e => by cases e⟩
  have k3 := q1.kept hb
  refine ⟨cs, ⟨k3.blk, k3.sz, hin g q1.blk.lt q1.bown, fun k hk => ⟨q1.new k (Nat.le_trans hb.size hk), fun e => by have := (ha.lt k e).2; omega, fun e => by have := (hbb.lt k e).2; omega, fun e => by cases e⟩, k3.row, fun j u b j1 j2 hu hub => ?_, k3.apart⟩, q2, q3⟩
  obtain ⟨u', m, hu', ho⟩ := q1.row j j1 j2
  rw [hu] at hu'; cases hu'
  exact ⟨hin b (ho.lt b hub).2 (q1.ob j u b j1 j2 hu hub).1, (q1.ob j u b j1 j2 hu hub).2⟩
end

end Go.Proofs.Ytcdlfhheolbhaaa
