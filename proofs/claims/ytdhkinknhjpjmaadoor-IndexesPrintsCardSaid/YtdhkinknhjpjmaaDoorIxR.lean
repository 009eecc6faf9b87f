/-
  Indexes, plainly: texts joined, cut, and with a sign put in; runs with a step; numbers one by one. No program is imported.
-/
import Derived.Test.YtdhkinknhjpjmaaDoorIxQ
namespace Go.Proofs.YtdhkinknhjpjmaaDoor
set_option linter.unusedVariables false

theorem run_app : ∀ (a b : Bs) (s : St) (t : Nat), run s t (a ++ b) = match run s t a with | .inl p => .inl p | .inr s' => run s' (t + a.length) b
  | [], b, s, t => rfl
  | c :: a, b, s, t => by
    show (match s.step t c.toNat with | none => Sum.inl t | some s' => run s' (t + 1) (a ++ b)) = _
    cases h : s.step t c.toNat with
    | none => rw [run_none h]
    | some s' =>
      rw [run_some h]
      show run s' (t + 1) (a ++ b) = _
      rw [run_app a b s' (t + 1)]
      have e : t + 1 + a.length = t + (c :: a).length := by simp; omega
      rw [e]
theorem run_ge : ∀ (r : Bs) (s : St) (t p : Nat), run s t r = .inl p → t ≤ p
  | [], s, t, p, h => by cases h
  | c :: r, s, t, p, h => by
    cases hs : s.step t c.toNat with
    | none => rw [run_none hs] at h; cases h; exact Nat.le_refl _
    | some s' => rw [run_some hs] at h; have := run_ge r s' (t + 1) p h; omega
theorem ok_run {l : Bs} {f : Nat → Bool} {m : Nat} (h : parseM l = .ok f m) : ∃ s, run St.init 0 l = .inr s ∧ 0 < s.dg ∧ s.fin.fault = none ∧ s.fin.marks = f ∧ s.fin.num 3 = m := by
  unfold parseM at h
  cases hr : run St.init 0 l with
  | inl p => rw [hr] at h; cases h
  | inr s =>
    rw [hr] at h
    have h' : (if s.dg = 0 then Out.txt l.length else endV s) = .ok f m := h
    by_cases h0 : s.dg = 0
    · rw [if_pos h0] at h'; cases h'
    · rw [if_neg h0] at h'
      unfold endV at h'
      cases hf : s.fin.fault with
      | some p => rw [hf] at h'; cases h'
      | none =>
        rw [hf] at h'
        injection h' with e1 e2
        exact ⟨s, rfl, by omega, hf, e1, e2⟩
theorem fin_part3 {u : St} (h : u.part = 3) (hf : u.fin.fault = none) : u.fin.num 3 ≠ 0 := by
  have e : u.fill = u.num := by unfold St.fill St.fill1; rw [if_neg (by omega), if_neg (by omega)]
  by_cases hb : badMost (u.num 3) = true
  · unfold St.fin isFault at hf
    rw [if_pos h, e, if_pos hb] at hf
    cases hf
  · intro h0
    apply hb
    have e2 : u.fin.num 3 = u.num 3 := by unfold St.fin isFault; rw [if_pos h, e, if_neg hb, if_pos h]
    unfold badMost
    rw [decide_eq_true_eq]
    exact .inl (by omega)
theorem fault_none {a b c t : Nat} (h : faultV none a b c t = none) : badItem a b c = false := by
  unfold faultV at h
  split at h
  · cases h
  · rename_i hb; simpa using hb
theorem ref_new : ∀ (q' : Nat) (m' g : Nat → Bool) (t' n : Nat) (r : Bs), r.length < q' → refV q' m' none t' r = .ok g n →
    ∃ new : Nat → Bool, (∀ i, g i = (m' i || new i)) ∧ ∀ (q : Nat) (m : Nat → Bool) (t : Nat), r.length < q → refV q m none t r = .ok (fun i => m i || new i) n
  | 0, _, _, _, _, _, hq, _ => by omega
  | q' + 1, m', g, t', n, r, hq', h => by
    rw [refV] at h
    cases ho : oneV r with
    | wrong k => rw [ho] at h; cases h
    | item a b c k =>
      rw [ho] at h
      dsimp only at h
      have hk : 0 < k ∧ k ≤ r.length := by
        have := one_run (s := St.init) (t := 0) ⟨rfl, rfl, rfl, rfl, rfl⟩ r
        rw [ho] at this
        exact ⟨this.1, this.2.1⟩
      by_cases h44 : (r.drop k).head? = some 44
      · rw [if_pos h44] at h
        have hf := (ref_ok _ _ _ _ _ _ _ h).1
        have hb := fault_none hf
        rw [hf] at h
        have hl2 := tail_len h44
        rw [List.length_drop] at hl2
        obtain ⟨new, e1, e2⟩ := ref_new q' _ _ _ _ _ (by omega) h
        have hm : ∀ m : Nat → Bool, marksV m a b c = fun i => m i || inRun a b c i := fun m => by unfold marksV; rw [hb, if_neg (by simp)]
        refine ⟨fun i => inRun a b c i || new i, fun i => by rw [e1, hm]; simp [Bool.or_assoc], fun q m t hq => ?_⟩
        cases q with
        | zero => omega
        | succ q =>
          rw [refV, ho]
          dsimp only
          rw [if_pos h44, show faultV none a b c t = none by unfold faultV; rw [hb, if_neg (by simp)], e2 q _ _ (by omega), hm]
          congr 1
          funext i
          simp [Bool.or_assoc]
      · rw [if_neg h44] at h
        obtain ⟨hf, hm', hn⟩ := tail_ok h
        have hb := fault_none hf
        have hm : ∀ m : Nat → Bool, marksV m a b c = fun i => m i || inRun a b c i := fun m => by unfold marksV; rw [hb, if_neg (by simp)]
        refine ⟨fun i => inRun a b c i, fun i => by rw [hm', hm], fun q m t hq => ?_⟩
        cases q with
        | zero => omega
        | succ q =>
          rw [refV, ho]
          dsimp only
          rw [if_neg h44, show faultV none a b c t = none by unfold faultV; rw [hb, if_neg (by simp)]]
          rw [hf] at h
          have key : ∀ (m1 m2 : Nat → Bool) (t1 t2 : Nat) (r : Bs), tailV m1 none t1 r = .ok m1 n → tailV m2 none t2 r = .ok m2 n := by
            intro m1 m2 t1 t2 r h
            unfold tailV mostV at h ⊢
            split
            · rename_i h1
              rw [if_pos h1] at h
              split
              · rename_i h2; rw [if_pos h2] at h; cases h
              · rename_i h2
                rw [if_neg h2] at h
                split
                · rename_i h3; rw [if_pos h3] at h; cases h
                · rename_i h3
                  rw [if_neg h3] at h
                  split
                  · rename_i h4; rw [if_pos h4] at h; cases h
                  · rename_i h4
                    rw [if_neg h4] at h
                    unfold doneV at h ⊢
                    injection h with _ e
                    rw [e]
            · rename_i h1
              rw [if_neg h1] at h
              split
              · rename_i h2; rw [if_pos h2] at h; cases h
              · rename_i h2
                rw [if_neg h2] at h
                unfold doneV at h ⊢
                injection h with _ e
                rw [e]
          rw [hm'] at h
          rw [key _ _ _ (t + k) _ h, hm]
theorem parse_join {a b : Bs} {f g : Nat → Bool} (ha : parseM a = .ok f 0) (hb : parseM b = .ok g 0) : parseM (a ++ 44 :: b) = .ok (fun i => f i || g i) 0 := by
  obtain ⟨s, hr, hd, hf, hm, hn⟩ := ok_run ha
  have h3 : s.part ≠ 3 := fun h => fin_part3 h hf hn
  have hrun : run St.init 0 (a ++ 44 :: b) = run (s.fin.item (a.length + 1) 0) (a.length + 1) b := by
    rw [run_app, hr]
    show run s (0 + a.length) (44 :: b) = _
    rw [Nat.zero_add]
    exact run_some (s' := s.fin.item (a.length + 1) 0) (c := 44) (step_sign (t := a.length) hd h3).1
  have hB : Begin (s.fin.item (a.length + 1) 0) (a.length + 1) := ⟨rfl, rfl, upd_at s.fin.num 0 0, by show upd s.fin.num 0 0 3 = 0; rw [upd_ne (by omega)]; exact hn, rfl⟩
  rw [parse_ref] at hb
  obtain ⟨new, e1, e2⟩ := ref_new _ _ _ _ _ _ (by omega) hb
  have href := run_ref (b.length + 1) _ _ b hB (by omega)
  have hfa : (s.fin.item (a.length + 1) 0).fault = none := hf
  have hma : (s.fin.item (a.length + 1) 0).marks = f := hm
  rw [hfa, hma, e2 _ _ _ (by omega)] at href
  unfold parseM
  rw [hrun, show (a ++ 44 :: b).length = a.length + 1 + b.length by simp; omega, href]
  congr 1
  funext i
  rw [e1]; rfl
theorem parse_pre {l : Bs} {f : Nat → Bool} {m : Nat} (h : parseM l = .ok f m) (k : Nat) (hk : k ≤ l.length) : ∃ s, run St.init 0 (l.take k) = .inr s := by
  obtain ⟨s, hr, _⟩ := ok_run h
  rw [← List.take_append_drop k l, run_app] at hr
  cases h1 : run St.init 0 (l.take k) with
  | inl p => rw [h1] at hr; cases hr
  | inr s' => exact ⟨s', rfl⟩
theorem txt_pre {l : Bs} {f : Nat → Bool} {m : Nat} (h : parseM l = .ok f m) {k p : Nat} (hk : k ≤ l.length) (hp : parseM (l.take k) = .txt p) : p = k := by
  obtain ⟨s, hr⟩ := parse_pre h k hk
  unfold parseM at hp
  rw [hr] at hp
  have h' : (if s.dg = 0 then Out.txt (l.take k).length else endV s) = .txt p := hp
  by_cases h0 : s.dg = 0
  · rw [if_pos h0] at h'
    injection h' with e
    rw [← e, List.length_take]; omega
  · rw [if_neg h0] at h'
    unfold endV at h'
    cases hf : s.fin.fault <;> rw [hf] at h' <;> cases h'
theorem txt_ins {l : Bs} {f : Nat → Bool} {m : Nat} (h : parseM l = .ok f m) {k p : Nat} (hk : k ≤ l.length) (c : UInt8) (r : Bs) (hp : parseM (l.take k ++ c :: r) = .txt p) :
    k ≤ p ∧ (isDig c = false → c ≠ 44 → c ≠ 45 → c ≠ 58 → c ≠ 37 → p = k) := by
  obtain ⟨s, hr⟩ := parse_pre h k hk
  have hlen : (l.take k).length = k := by rw [List.length_take]; omega
  unfold parseM at hp
  rw [run_app, hr] at hp
  dsimp only at hp
  rw [hlen, Nat.zero_add, List.length_append, hlen, List.length_cons] at hp
  cases hs : s.step k c.toNat with
  | none =>
    rw [run_none hs] at hp
    have hp' : Out.txt k = .txt p := hp
    injection hp' with e
    exact ⟨by omega, fun _ _ _ _ _ => e.symm⟩
  | some s' =>
    rw [run_some hs] at hp
    refine ⟨?_, fun hd h1 h2 h3 h4 => ?_⟩
    · cases h1 : run s' (k + 1) r with
      | inl p' =>
        rw [h1] at hp
        have hp' : Out.txt p' = .txt p := hp
        injection hp' with e
        have := run_ge _ _ _ _ h1
        omega
      | inr s2 =>
        rw [h1] at hp
        have h' : (if s2.dg = 0 then Out.txt (k + (r.length + 1)) else endV s2) = .txt p := hp
        by_cases h0 : s2.dg = 0
        · rw [if_pos h0] at h'; injection h' with e; omega
        · rw [if_neg h0] at h'
          unfold endV at h'
          cases hf : s2.fin.fault <;> rw [hf] at h' <;> cases h'
    · unfold St.step at hs
      have hd' : ¬ (48 ≤ c.toNat ∧ c.toNat ≤ 57) := fun hh => by rw [(isDig_iff c).2 hh] at hd; cases hd
      have e : ∀ k : Nat, k < 256 → c.toNat = k → c = UInt8.ofNat k := fun k hk h => by rw [← h]; simp
      rw [if_neg hd'] at hs
      split at hs
      · cases hs
      · rw [if_neg fun hh => h2 (e 45 (by omega) hh.1), if_neg fun hh => h3 (e 58 (by omega) hh.1), if_neg fun hh => h1 (e 44 (by omega) hh.1), if_neg fun hh => h4 (e 37 (by omega) hh.1)] at hs
        cases hs
/-! Runs with a step. -/
def runText (a b c : Nat) : Bs := D a ++ 45 :: (D b ++ 58 :: D c)
theorem one_runText {a b c : Nat} (ha : a < 10000) (hb : b < 10000) (hc : c < 10000) : oneV (runText a b c) = .item a b c (runText a b c).length := by
  have := one_NMS ha hb hc (r := []) (.inl rfl)
  rw [List.append_nil] at this
  rw [runText, this]
  simp; omega
theorem ref_last {a b c : Nat} (ha : a < 10000) (hb : b < 10000) (hc : c < 10000) (q : Nat) (m : Nat → Bool) (f : Option Nat) (t : Nat) : refV (q + 1) m f t (runText a b c) = doneV (marksV m a b c) (faultV f a b c t) 0 := by
  rw [refV, one_runText ha hb hc]
  dsimp only
  rw [List.drop_length, if_neg (by simp)]
  unfold tailV
  rw [if_neg (by simp), if_neg (by simp)]
theorem parse_run {a b c : Nat} (ha : a < 10000) (hb : b < 10000) (hc : c < 10000) : parseM (runText a b c) = doneV (marksV (fun _ => false) a b c) (faultV none a b c 0) 0 := by
  rw [parse_ref]; exact ref_last ha hb hc _ _ _ _
theorem parse_seven {a b c : Nat} (ha : a < 10000) (hb : b < 10000) (hc : c < 10000) : parseM (55 :: 44 :: runText a b c) = if badItem a b c = true then .arg 2 else .ok (fun i => decide (i = 7) || inRun a b c i) 0 := by
  rw [parse_ref]
  show refV ((runText a b c).length + 1 + 1 + 1) _ _ _ _ = _
  rw [refV]
  have h7 : oneV (55 :: 44 :: runText a b c) = .item 7 7 1 1 := by
    have := one_N (a := 7) (by omega) (r := 44 :: runText a b c) (.inr ⟨_, .inl rfl⟩)
    rw [D_low (by omega : 7 < 10)] at this
    exact this
  rw [h7]
  dsimp only
  rw [show List.drop 1 (55 :: 44 :: runText a b c) = 44 :: runText a b c from rfl, if_pos List.head?_cons, List.tail_cons, ref_last ha hb hc]
  have e1 : marksV (fun _ => false) 7 7 1 = fun i => decide (i = 7) := by
    unfold marksV
    rw [if_neg (by decide)]
    funext i
    rw [inRun_one, Bool.false_or]
    congr 1
    exact propext ⟨fun h => by omega, fun h => by omega⟩
  have e2 : faultV none 7 7 1 0 = none := by unfold faultV; rw [if_neg (by decide)]
  rw [e1, e2]
  by_cases hbad : badItem a b c = true
  · rw [if_pos hbad]; unfold faultV; rw [if_pos hbad]; rfl
  · rw [if_neg hbad]; unfold faultV marksV; rw [if_neg hbad, if_neg hbad]; rfl
/-! Numbers one by one. -/
def eachT : List Nat → Bs
  | [] => []
  | x :: r => D x ++ restT (r.map fun y => (y, y))
theorem parse_each {x : Nat} {r : List Nat} (h : ∀ y ∈ x :: r, y ≤ 1000) : ∃ f, parseM (eachT (x :: r)) = .ok f 0 ∧ ∀ i, f i = decide (i ∈ x :: r) := by
  refine ⟨fun i => false || inRuns ((x, x) :: r.map fun y => (y, y)) i, ?_, fun i => ?_⟩
  · rw [parse_ref]
    have e : eachT (x :: r) = runT (x, x) ++ (restT (r.map fun y => (y, y)) ++ mostT 0) := by
      unfold eachT runT mostT
      rw [if_pos rfl, if_pos rfl, List.append_nil]
    rw [e]
    refine ref_runs 0 (by omega) (r.map fun y => (y, y)) (x, x) _ _ 0 (fun p hp => ?_) (by omega)
    rcases List.mem_cons.1 hp with rfl | hp
    · exact ⟨Nat.le_refl _, h x List.mem_cons_self⟩
    · obtain ⟨y, hy, rfl⟩ := List.mem_map.1 hp
      exact ⟨Nat.le_refl _, h y (List.mem_cons_of_mem _ hy)⟩
  · show (false || inRuns _ i) = _
    rw [Bool.false_or]
    unfold inRuns
    rw [Bool.eq_iff_iff, List.any_eq_true, decide_eq_true_eq, List.mem_cons]
    constructor
    · rintro ⟨p, hp, h2⟩
      rw [decide_eq_true_eq] at h2
      rcases List.mem_cons.1 hp with rfl | hp
      · left; dsimp only at h2; omega
      · obtain ⟨y, hy, rfl⟩ := List.mem_map.1 hp
        right; dsimp only at h2
        have : i = y := by omega
        rw [this]; exact hy
    · rintro (rfl | hi)
      · exact ⟨(i, i), List.mem_cons_self, by rw [decide_eq_true_eq]; exact ⟨Nat.le_refl _, Nat.le_refl _⟩⟩
      · exact ⟨(i, i), List.mem_cons_of_mem _ (List.mem_map.2 ⟨i, hi, rfl⟩), by rw [decide_eq_true_eq]; exact ⟨Nat.le_refl _, Nat.le_refl _⟩⟩
theorem each_snoc (l : List Nat) (x : Nat) (h : l ≠ []) : eachT (l ++ [x]) = eachT l ++ (44 :: D x) := by
  cases l with
  | nil => exact absurd rfl h
  | cons y r =>
    show D y ++ restT ((r ++ [x]).map fun y => (y, y)) = (D y ++ restT (r.map fun y => (y, y))) ++ (44 :: D x)
    rw [List.map_append, List.append_assoc]
    congr 1
    unfold restT
    rw [List.flatMap_append]
    congr 1
    show (44 :: runT (x, x)) ++ [] = _
    unfold runT
    rw [if_pos rfl, List.append_nil]
/-- A run's numbers. -/
def runL (a n s : Nat) : List Nat := (List.range n).map fun i => a + s * i
theorem mem_runL (a n s i : Nat) : i ∈ runL a n s ↔ ∃ j, j < n ∧ i = a + s * j := by
  unfold runL
  rw [List.mem_map]
  exact ⟨fun ⟨j, hj, e⟩ => ⟨j, List.mem_range.1 hj, e.symm⟩, fun ⟨j, hj, e⟩ => ⟨j, List.mem_range.2 hj, e.symm⟩⟩
theorem run_list {a k s : Nat} (hs : 0 < s) (h : a + k ≤ 1000) : listF (fun i => false || inRun a (a + k) s i) = runL a (k / s + 1) s := by
  refine sorted_uniq (listF_inc _) ?_ fun i => ?_
  · unfold runL
    rw [List.pairwise_map]
    refine List.Pairwise.imp ?_ List.pairwise_lt_range
    intro x y hxy
    have := Nat.mul_lt_mul_of_pos_left hxy hs
    omega
  · rw [mem_listF, mem_runL, Bool.false_or]
    unfold inRun
    rw [decide_eq_true_eq]
    constructor
    · rintro ⟨_, h1, h2, h3⟩
      have e := Nat.div_add_mod (i - a) s
      rw [h3] at e
      refine ⟨(i - a) / s, ?_, by omega⟩
      have := Nat.div_le_div_right (c := s) (show i - a ≤ k by omega)
      omega
    · rintro ⟨j, hj, rfl⟩
      have h1 : j ≤ k / s := by omega
      have h2 : s * j ≤ k := by
        have := Nat.mul_le_mul_left s h1
        have := Nat.mul_div_le k s
        omega
      refine ⟨by omega, by omega, by omega, ?_⟩
      rw [Nat.add_sub_cancel_left, Nat.mul_mod_right]
/-- The same numbers, in turn. -/
def turnL (a n s k j : Nat) : List Nat := (List.range j).map fun i => a + s * ((i + k) % n)
theorem mem_turnL {a n s k i : Nat} (hn : 0 < n) : i ∈ turnL a n s k n ↔ i ∈ runL a n s := by
  rw [mem_runL]
  unfold turnL
  rw [List.mem_map]
  constructor
  · rintro ⟨j, hj, rfl⟩
    exact ⟨(j + k) % n, Nat.mod_lt _ hn, rfl⟩
  · rintro ⟨j, hj, rfl⟩
    refine ⟨(j + (n - k % n)) % n, List.mem_range.2 (Nat.mod_lt _ hn), ?_⟩
    have hk := Nat.mod_lt k hn
    have : ((j + (n - k % n)) % n + k) % n = j := by
      rw [Nat.mod_add_mod, show j + (n - k % n) + k = (j + n) + (k - k % n) by have := Nat.mod_le k n; omega]
      have e : k - k % n = n * (k / n) := by have := Nat.div_add_mod k n; omega
      rw [e, Nat.add_mul_mod_self_left, Nat.add_mod_right, Nat.mod_eq_of_lt hj]
    rw [this]
theorem turn_succ (a n s k j : Nat) : turnL a n s k (j + 1) = turnL a n s k j ++ [a + s * ((j + k) % n)] := by
  unfold turnL; rw [List.range_succ, List.map_append]; rfl
theorem turn_parse {a n s k : Nat} (hn : 0 < n) (hs : 0 < s) (h : ∀ x ∈ runL a n s, x ≤ 1000) : ∃ f, parseM (eachT (turnL a n s k n)) = .ok f 0 ∧ ∀ i, f i = decide (i ∈ runL a n s) := by
  have hl : turnL a n s k n ≠ [] := by unfold turnL; intro e; have := congrArg List.length e; simp at this; omega
  have hb : ∀ x ∈ turnL a n s k n, x ≤ 1000 := fun x hx => h x ((mem_turnL hn).1 hx)
  have hm : ∀ i, i ∈ turnL a n s k n ↔ i ∈ runL a n s := fun i => mem_turnL hn
  cases ht : turnL a n s k n with
  | nil => exact absurd ht hl
  | cons x r =>
    rw [ht] at hb hm
    obtain ⟨f, h1, h2⟩ := parse_each hb
    exact ⟨f, h1, fun i => by rw [h2]; exact decide_eq_decide.2 (hm i)⟩
end Go.Proofs.YtdhkinknhjpjmaaDoor
