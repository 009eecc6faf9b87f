/-
  PLAIN: what the laws of layer 14 ask.
  gangerlaw14.like.
-/
import Derived.Test.YtfabjlhepadkpaaWtJM
import Derived.Test.YtfabjlhepadkpaaDeSm
namespace Go.Proofs.Ytfabjlhepadkpaa
set_option linter.unusedVariables false

section
open Go Go.RowKit Go.Lib
theorem listJ_len (l : List Jb) (now what : Int) : (listJ l now what).length ≤ l.length := by
  unfold listJ; split
  · unfold saysL; rw [List.length_map]; exact List.length_filter_le _ _
  · exact Nat.zero_le _
theorem urow_len {w : World} {base M : Nat} {v : Value} {A : List Nat} (h : w.ownsRow base 23 1 v M (uL A)) (hM : M = A.length) : URow w v A := by
  subst hM; exact urow_of_own h
theorem mem_listJ {l : List Jb} (hok : okJs l = true) {now what : Int} {id : Nat} : id ∈ listJ l now what ↔ ∃ i, ∃ h : i < l.length, id = i + 1 ∧ sayJ l l[i] now = what := by
  unfold listJ saysL
  rw [if_pos hok, List.mem_map]
  constructor
  · rintro ⟨j, hj, rfl⟩
    obtain ⟨h1, h2⟩ := List.mem_filter.1 hj
    obtain ⟨i, hi, rfl⟩ := List.getElem_of_mem h1
    exact ⟨i, hi, (okJs_iff.1 hok i hi).1, of_decide_eq_true h2⟩
  · rintro ⟨i, hi, rfl, hs⟩
    exact ⟨l[i], List.mem_filter.2 ⟨List.getElem_mem hi, decide_eq_true hs⟩, (okJs_iff.1 hok i hi).1⟩
theorem listJ_no {l : List Jb} (hok : okJs l = false) (now what : Int) : listJ l now what = [] := by unfold listJ; rw [if_neg (by rw [hok]; simp)]
theorem howJ_one {h : Int} : howJ h = 1 ↔ h = 1 ∨ h = 2 := by
  unfold howJ
  constructor
  · intro h; repeat' split at h
    all_goals omega
  · intro h; rw [if_pos (by omega)]
theorem howJ_two {h : Int} : howJ h = 2 ↔ h = 3 ∨ h = 4 := by
  unfold howJ
  constructor
  · intro h; repeat' split at h
    all_goals omega
  · intro h; rw [if_neg (by omega), if_pos (by omega)]
/-- Who is ready waits, in time, with room; its dependency says so. -/
theorem ready_facts {l : List Jb} {j : Jb} {now : Int} (h : sayJ l j now = 2) : j.how = 1 ∧ j.beg ≤ now ∧ sayB j.any (aloneJ l j) (allW l) (ndsOf j.nd) = 2 ∧ roomJ l j = true := by
  unfold sayJ at h
  split at h
  · rename_i h1
    split at h
    · omega
    · rename_i h2
      have hn : ¬ (j.how = 2 ∨ j.beg > now ∨ roomJ l j = false) := fun h3 => h2 ⟨h, h3⟩
      refine ⟨?_, ?_, h, ?_⟩
      · rcases howJ_one.1 h1 with e | e
        · exact e
        · exact absurd (.inl e) hn
      · rcases Int.lt_or_le now j.beg with e | e
        · exact absurd (.inr (.inl e)) hn
        · exact e
      · cases hr : roomJ l j
        · exact absurd (.inr (.inr hr)) hn
        · rfl
  · omega
theorem ready_of {l : List Jb} {j : Jb} {now : Int} (h1 : j.how = 1) (h2 : j.beg ≤ now) (h3 : sayB j.any (aloneJ l j) (allW l) (ndsOf j.nd) = 2) (h4 : roomJ l j = true) : sayJ l j now = 2 := by
  unfold sayJ
  rw [if_pos (howJ_one.2 (.inl h1)), if_neg]
  · exact h3
  · rintro ⟨_, h | h | h⟩
    · omega
    · omega
    · rw [h4] at h; cases h
def oneD (j : Jb) : Prop := false = j.any ∧ ndsOf j.nd = [(5, [])]
instance (j : Jb) : Decidable (oneD j) := by unfold oneD; infer_instance
/-- Are two like one another, and want to be alone? -/
def likeJ (a b : Jb) : Bool := (a.name.toList == b.name.toList) && ((a.acct.toList == b.acct.toList) && (decide (oneD a) && decide (oneD b)))
theorem one_alone {j : Jb} (h : oneD j) {al : Bool} {wl : List Wh} (hs : sayB j.any al wl (ndsOf j.nd) = 2) : al = true := by
  rw [h.2, ← h.1] at hs
  cases al
  · exfalso
    have e : sayB false false wl [(5, [])] = 1 := by unfold sayB sayD sayN worst; rw [if_pos (by decide)]; rfl
    rw [e] at hs; cases hs
  · rfl
theorem alone_no {l : List Jb} {a b : Jb} (h : aloneJ l a = true) (hb : b ∈ l) : busyJ a b = false := by
  unfold aloneJ at h
  cases hx : busyJ a b
  · rfl
  · rw [List.any_eq_true.2 ⟨b, hb, hx⟩] at h; cases h
theorem busy_like {a b : Jb} (hl : likeJ a b = true) (hne : b.id ≠ a.id) : busyJ a b = stirJ a b := by
  unfold likeJ at hl
  simp only [Bool.and_eq_true, beq_iff_eq, decide_eq_true_eq] at hl
  unfold busyJ otherJ
  rw [show (b.id == a.id) = false by simpa using hne, hl.1, hl.2.1]
  simp
/-- Of two alike not both are ready, and none while the other one runs. -/
theorem like_ready {l : List Jb} (hok : okJs l = true) {a b : Jb} (ha : a ∈ l) (hb : b ∈ l) {now : Int} (hr : sayJ l a now = 2) (hl : likeJ a b = true) (hne : b.id ≠ a.id) : ¬ (b.how = 3 ∨ b.how = 4) ∧ sayJ l b now ≠ 2 := by
  obtain ⟨h1, _, h2, _⟩ := ready_facts hr
  have hl' := hl
  unfold likeJ at hl
  simp only [Bool.and_eq_true, beq_iff_eq, decide_eq_true_eq] at hl
  have hal := one_alone hl.2.2.1 h2
  have hs : stirJ a b = false := by rw [← busy_like hl' hne]; exact alone_no hal hb
  constructor
  · intro h
    unfold stirJ at hs
    rw [howJ_two.2 h] at hs
    simp at hs
  · intro hrb
    obtain ⟨k1, _, k2, _⟩ := ready_facts hrb
    have hbl := one_alone hl.2.2.2 k2
    have hlb : likeJ b a = true := by
      unfold likeJ
      simp only [Bool.and_eq_true, beq_iff_eq, decide_eq_true_eq]
      exact ⟨hl.1.symm, hl.2.1.symm, hl.2.2.2, hl.2.2.1⟩
    have hs2 : stirJ b a = false := by rw [← busy_like hlb (fun e => hne e.symm)]; exact alone_no hbl ha
    unfold stirJ at hs hs2
    rw [howJ_one.2 (.inl h1)] at hs2
    rw [howJ_one.2 (.inl k1)] at hs
    have e1 : decide (b.id < a.id) = false := by simpa using hs
    have e2 : decide (a.id < b.id) = false := by simpa using hs2
    have := of_decide_eq_false e1
    have := of_decide_eq_false e2
    omega
/-! Time. -/
theorem say_later {l : List Jb} {j : Jb} {now nl : Int} (h : sayJ l j now = 2) (hn : now ≤ nl) : sayJ l j nl = 2 := by
  obtain ⟨h1, h2, h3, h4⟩ := ready_facts h
  exact ready_of h1 (by omega) h3 h4
theorem say_beg {l : List Jb} {j : Jb} {nl : Int} (h : sayJ l j nl = 2) : sayJ l j j.beg = 2 := by
  obtain ⟨h1, h2, h3, h4⟩ := ready_facts h
  exact ready_of h1 (by omega) h3 h4
theorem say_when {l : List Jb} {j : Jb} {now nl : Int} (h : sayJ l j nl = 2) : sayJ l j now = 2 ↔ ¬ j.beg > now := by
  obtain ⟨h1, h2, h3, h4⟩ := ready_facts h
  constructor
  · intro hn; have := (ready_facts hn).2.1; omega
  · intro hn; exact ready_of h1 (by omega) h3 h4
theorem say_three {l : List Jb} {j : Jb} {now nl : Int} : sayJ l j now = 3 ↔ sayJ l j nl = 3 := by
  have key : ∀ t : Int, sayJ l j t = 3 ↔ howJ j.how = 1 ∧ sayB j.any (aloneJ l j) (allW l) (ndsOf j.nd) = 3 := fun t => by
    unfold sayJ
    constructor
    · intro h
      split at h
      · rename_i h1
        split at h
        · omega
        · exact ⟨h1, h⟩
      · omega
    · rintro ⟨h1, h2⟩
      rw [if_pos h1, if_neg (by rw [h2]; rintro ⟨h, _⟩; omega)]
      exact h2
  rw [key, key]
theorem mem_take_succ {l : List Nat} {x k : Nat} (hk : k < l.length) : decide (x ∈ l.take (k + 1)) = (decide (x ∈ l.take k) || decide (x = l[k])) := by
  rw [Bool.eq_iff_iff]
  simp only [decide_eq_true_eq, Bool.or_eq_true]
  rw [List.take_add_one, List.getElem?_eq_getElem hk, List.mem_append]
  simp only [Option.toList, List.mem_singleton]
end

section
open Go Go.RowKit Go.Lib
theorem ld_jbC {ops : Array Oper} {rest : List Oper} {op : Oper} {a : Act} {w : World} {Q : Exit → Act → World → Prop} (hw : Region.wanted op (yielded ops a.tmps) = true) (x : Operand) (ho : op.op = .load 41 x) (b o : Nat) (hx : a.eval x = .pointer (some ⟨b, o, none⟩)) (j : Jb) (hc : w.rangeAt b o (jbV j))
    (h : wpList Try.prog ops Q rest (a.put op.dst (.agg (jbC j))) w) : wpList Try.prog ops Q (op :: rest) a w := ld_jbg hw x ho b o hx j hc h
set_option maxRecDepth 100000 in
set_option maxHeartbeats 4000000 in
theorem like_any (ja jb : Jb) (w : World) (ha : JbS ja) (hb : JbS jb) (h1 : NRw w ja.dv ja.nd) (h2 : NRw w jb.dv jb.nd) :
    Calls Try.prog 26 #[.agg (jbC ja), .agg (jbC jb)] w fun e w' => e = .returned (.bool (likeJ ja jb)) ∧ Below w.heap.size w w' := by
  obtain ⟨g2, hg2⟩ : ∃ g, g = w.heap.size := ⟨_, rfl⟩
  obtain ⟨X, hX⟩ : ∃ X, X = w.alloc (.cells (jbC ja) 41) := ⟨_, rfl⟩
  have hbX : Below w.heap.size w X := by rw [hX]; exact (Below.refl _ _).alloc (Nat.le_refl _) _
  have hk2 : Blk X g2 (jbC ja) 41 := by rw [hX, hg2]; exact Blk.new _ _ _
  obtain ⟨g3, hg3⟩ : ∃ g, g = X.heap.size := ⟨_, rfl⟩
  obtain ⟨Y, hY⟩ : ∃ Y, Y = X.alloc (.cells (jbC jb) 41) := ⟨_, rfl⟩
  have hbY : Below X.heap.size X Y := by rw [hY]; exact (Below.refl _ _).alloc (Nat.le_refl _) _
  have hk3 : Blk Y g3 (jbC jb) 41 := by rw [hY, hg3]; exact Blk.new _ _ _
  obtain ⟨r, hr⟩ : ∃ r, r = likeJ ja jb := ⟨_, rfl⟩
  rw [← hr]
  unfold likeJ at hr
  have HR := Lib.hid hr
  have HB := Lib.hid (below_next hbY hbX)
  have HK2 := Lib.hid (hk2.kept hbY)
  have HK3 := Lib.hid hk3
  have H1 := Lib.hid h1
  have H2 := Lib.hid h2
  obtain ⟨JA, hJA⟩ : ∃ J, J = jbC ja := ⟨_, rfl⟩
  obtain ⟨JB, hJB⟩ : ∃ J, J = jbC jb := ⟨_, rfl⟩
  rw [← hJA] at hX ⊢
  rw [← hJB] at hY ⊢
  have HX := Lib.hid hX
  have HY := Lib.hid hY
  have HG2 := Lib.hid hg2
  have HG3 : Hid (g3 = w.heap.size + 1) := by unfold Hid; rw [hg3, hX]; simp
  clear hr hX hY hbX hbY hk2 hk3 h1 h2 hJA hJB hg2 hg3
  go_enter Try.func26, Try.ntmps26
  go_upto_region 1 with fail
  rw [← HG3.out, ← HG2.out, ← HX.out, ← HY.out]
  obtain ⟨gn, hgn⟩ : ∃ g, g = Y.heap.size := ⟨_, rfl⟩
  obtain ⟨P, hP⟩ : ∃ P, P = Y.alloc (.cells #[.int .i64 5, .slice none 0 0] 58) := ⟨_, rfl⟩
  have hbP : Below Y.heap.size Y P := by rw [hP]; exact (Below.refl _ _).alloc (Nat.le_refl _) _
  have hkn : Blk P gn #[.int .i64 5, .slice none 0 0] 58 := by rw [hP, hgn]; exact Blk.new _ _ _
  obtain ⟨g5, hg5⟩ : ∃ g, g = gn + 1 := ⟨_, rfl⟩
  obtain ⟨Q, hQ⟩ : ∃ Q, Q = P.alloc (.cells #[.bool false, .slice (some ⟨gn, 0, none⟩) 1 1] 35) := ⟨_, rfl⟩
  have hbQ : Below P.heap.size P Q := by rw [hQ]; exact (Below.refl _ _).alloc (Nat.le_refl _) _
  have hk5 : Blk Q g5 #[.bool false, .slice (some ⟨gn, 0, none⟩) 1 1] 35 := by
    have e : g5 = P.heap.size := by rw [hg5, hP, hgn]; simp
    rw [hQ, e]; exact Blk.new _ _ _
  have hone : NRw Q (.slice (some ⟨gn, 0, none⟩) 1 1) [(5, .slice none 0 0, [])] := by
    have hq := hkn.kept hbQ
    refine ⟨.inr ⟨gn, 0, 1, rfl, by simp, fun i hi j u hu => ?_⟩, fun p hp => ?_, by simp, fun p hp => ?_, fun p hp j hj => ?_⟩
    · have : i = 0 := by simp at hi; omega
      subst this
      rw [hq.cell]
      simpa [ndV] using hu
    · rw [List.mem_singleton] at hp; subst hp; exact RowG.none _ _ _
    · rw [List.mem_singleton] at hp; subst hp; simp
    · rw [List.mem_singleton] at hp; subst hp; cases hj
  have HBQ := Lib.hid (below_next hbQ (below_next hbP HB.out))
  have hk2 := (HK2.out.kept hbP).kept hbQ
  have hk3 := (HK3.out.kept hbP).kept hbQ
  obtain ⟨aa, ac, eda⟩ := H1.out.row.slice
  obtain ⟨ba, bc, edb⟩ := H2.out.row.slice
  obtain ⟨LA, hLA⟩ : ∃ L, L = ja.nd.length := ⟨_, rfl⟩
  obtain ⟨LB, hLB⟩ : ∃ L, L = jb.nd.length := ⟨_, rfl⟩
  rw [← hLA] at eda
  rw [← hLB] at edb
  have x3 : Q.cell? ⟨g2, 3, none⟩ = some (.string ja.name) := blk_jb hk2 3
  have x4 : Q.cell? ⟨g2, 4, none⟩ = some (.string ja.acct) := blk_jb hk2 4
  have x11 : Q.cell? ⟨g2, 11, none⟩ = some (.bool ja.any) := blk_jb hk2 11
  have x12 : Q.cell? ⟨g2, 12, none⟩ = some (.slice aa LA ac) := by rw [← eda]; exact blk_jb hk2 12
  have y3 : Q.cell? ⟨g3, 3, none⟩ = some (.string jb.name) := blk_jb hk3 3
  have y4 : Q.cell? ⟨g3, 4, none⟩ = some (.string jb.acct) := blk_jb hk3 4
  have y11 : Q.cell? ⟨g3, 11, none⟩ = some (.bool jb.any) := blk_jb hk3 11
  have y12 : Q.cell? ⟨g3, 12, none⟩ = some (.slice ba LB bc) := by rw [← edb]; exact blk_jb hk3 12
  have z0 : Q.cell? ⟨g5, 0, none⟩ = some (.bool false) := by rw [hk5.cell]; rfl
  have z1 : Q.cell? ⟨g5, 1, none⟩ = some (.slice (some ⟨gn, 0, none⟩) 1 1) := by rw [hk5.cell]; rfl
  have dec : ∀ j : Jb, decide (j.any = false ∧ ndsOf j.nd = ndsOf [(5, .slice none 0 0, [])]) = decide (oneD j) := fun j => decide_eq_decide.2 ⟨fun h => ⟨h.1.symm, h.2⟩, fun h => ⟨h.1.symm, h.2⟩⟩
  have S1 : Hid (Calls Try.prog 36 #[.agg #[.bool ja.any, .slice aa LA ac], .agg #[.bool false, .slice (some ⟨gn, 0, none⟩) 1 1]] Q fun e w' => e = .returned (.bool (decide (oneD ja))) ∧ Below Q.heap.size Q w') := by
    rw [← dec ja, ← eda]; exact same8_any ja.any false ja.dv _ ja.nd _ Q (H1.out.kept HBQ.out) hone
  have S2 : Hid (∀ w1, Below Q.heap.size Q w1 → Calls Try.prog 36 #[.agg #[.bool jb.any, .slice ba LB bc], .agg #[.bool false, .slice (some ⟨gn, 0, none⟩) 1 1]] w1 fun e w' => e = .returned (.bool (decide (oneD jb))) ∧ Below w1.heap.size w1 w') := fun w1 hb => by
    rw [← dec jb, ← edb]; exact same8_any jb.any false jb.dv _ jb.nd _ w1 ((H2.out.kept HBQ.out).kept hb) (hone.kept hb)
  obtain ⟨da, hda⟩ : ∃ d, d = decide (oneD ja) := ⟨_, rfl⟩
  obtain ⟨db, hdb⟩ : ∃ d, d = decide (oneD jb) := ⟨_, rfl⟩
  rw [← hda, ← hdb] at HR
  rw [← hda] at S1
  rw [← hdb] at S2
  obtain ⟨an, han⟩ : ∃ x, x = ja.name := ⟨_, rfl⟩
  obtain ⟨aA, haA⟩ : ∃ x, x = ja.acct := ⟨_, rfl⟩
  obtain ⟨ay, hay⟩ : ∃ x, x = ja.any := ⟨_, rfl⟩
  obtain ⟨bn, hbn⟩ : ∃ x, x = jb.name := ⟨_, rfl⟩
  obtain ⟨bA, hbA⟩ : ∃ x, x = jb.acct := ⟨_, rfl⟩
  obtain ⟨by_, hby⟩ : ∃ x, x = jb.any := ⟨_, rfl⟩
  rw [← han, ← haA, ← hbn, ← hbA] at HR
  rw [← han] at x3
  rw [← haA] at x4
  rw [← hay] at x11 S1
  rw [← hbn] at y3
  rw [← hbA] at y4
  rw [← hby] at y11 S2
  have HP := Lib.hid hP
  have HQ := Lib.hid hQ
  have HGN := Lib.hid hgn
  have HG5 := Lib.hid hg5
  clear hP hQ hgn hg5 hbP hkn hbQ hk5 hone hk2 hk3 eda edb hLA hLB dec hda hdb han haA hay hbn hbA hby H1 H2 HX HY HG2 HG3 HK2 HK3
  obtain ⟨a1, p1⟩ : ∃ b, (an.toList == bn.toList) = b := ⟨_, rfl⟩
  obtain ⟨a2, p2⟩ : ∃ b, (aA.toList == bA.toList) = b := ⟨_, rfl⟩
  rw [p1, p2] at HR
  go_upto_region 2 with fail
  rw [← HGN.out, ← HP.out, ← HQ.out, ← HG5.out]
  cases a1 with
  | false =>
    go_wp2_with fail
    go_ret
    exact ⟨by rw [HR.out]; rfl, HBQ.out⟩
  | true =>
    cases a2 with
    | false =>
      go_wp2_with fail
      go_ret
      exact ⟨by rw [HR.out]; rfl, HBQ.out⟩
    | true =>
      go_wp2_with fail
      refine S1.out.mono ?_; rintro e w1 ⟨rfl, b1⟩
      have HB1 := Lib.hid (below_next b1 HBQ.out)
      have S2' := Lib.hid (S2.out w1 b1)
      have q11 := cell_next b1 y11
      have q12 := cell_next b1 y12
      have q0 := cell_next b1 z0
      have q1 := cell_next b1 z1
      clear b1 S1 S2 x3 x4 x11 x12 y3 y4 y11 y12 z0 z1
      cases da with
      | false =>
        go_wp2_with fail
        go_ret
        exact ⟨by rw [HR.out]; rfl, HB1.out⟩
      | true =>
        go_wp2_with fail
        refine S2'.out.mono ?_; rintro e w2 ⟨rfl, b2⟩
        have HB2 := Lib.hid (below_next b2 HB1.out)
        clear b2 S2' q11 q12 q0 q1
        go_wp2_with fail
        go_ret
        exact ⟨by rw [HR.out]; rfl, HB2.out⟩
end

end Go.Proofs.Ytfabjlhepadkpaa
