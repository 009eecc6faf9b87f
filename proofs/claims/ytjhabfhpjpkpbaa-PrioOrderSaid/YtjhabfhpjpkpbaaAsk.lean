/-
  Rows of jobs in memory; prio.Keys and prio.First: at any jobs.
-/
import Derived.Test.YtjhabfhpjpkpbaaPrioLaw
import Derived.Test.YtjhabfhpjpkpbaaKeyM
import Derived.Test.YtjhabfhpjpkpbaaApp
import Derived.Deep.AppendLies
namespace Go.Proofs.Ytjhabfhpjpkpbaa
open Go.ChangeShapes Go.WideShapes Go.ChangeAt Go.RowKit Go.Lib Go.Sort Go.Maps
set_option linter.unusedVariables false

/-- A job that asks. -/
structure AskS where
  id : Int
  since : Int
  size : Int
  nice : Int
  qos : Int
  part : Int
  factor : Int
instance : Inhabited AskS := ⟨⟨0, 0, 0, 0, 0, 0, 0⟩⟩
/-- The weights. -/
structure WtS where
  f : Int
  a : Int
  s : Int
  q : Int
  p : Int
def wtL (W : WtS) : List Value := [.int .i64 W.f, .int .i64 W.a, .int .i64 W.s, .int .i64 W.q, .int .i64 W.p]
def encA (x : AskS) : List Value := [.int .u32 x.id, .int .i64 x.since, .int .i64 x.size, .int .i64 x.nice, .int .i64 x.qos, .int .i64 x.part, .int .i64 x.factor]
def AskOk (x : AskS) : Prop := (Lit.int .u32 x.id).wf = true ∧ I64 x.since ∧ I64 x.size ∧ I64 x.nice ∧ I64 x.qos ∧ I64 x.part ∧ I64 x.factor
def pV (W : WtS) (now all : Int) (x : AskS) : Int := prV W.f W.a W.s W.q W.p x.id x.since x.size x.nice x.qos x.part x.factor now all
def pE (W : WtS) (now all : Int) (x : AskS) : Int := prE W.f W.a W.s W.q W.p x.id x.since x.nice x.factor now all
theorem pE_two (W : WtS) (now all : Int) (x : AskS) : pE W now all x = 0 ∨ pE W now all x = 2 := by unfold pE prE; split <;> simp
def keyOf (W : WtS) (now all : Int) (x : AskS) : Key := (pV W now all x, x.since, x.id)
def aAt (l : List AskS) (k : Nat) : AskS := l.getD k default
theorem aAt_get {l : List AskS} {k : Nat} (h : k < l.length) : l[k]? = some (aAt l k) := by simp [aAt, List.getD, List.getElem?_eq_getElem h]
theorem aAt_mem {l : List AskS} {k : Nat} (h : k < l.length) : aAt l k ∈ l := List.mem_of_getElem? (aAt_get h)
def keysR (W : WtS) (now all : Int) (l : List AskS) : List Key := l.map (keyOf W now all)
theorem keysR_snoc (W : WtS) (now all : Int) (l : List AskS) (k : Nat) (h : k < l.length) : flatL (keysR W now all (l.take (k + 1))) = flatL (keysR W now all (l.take k)) ++ encK (keyOf W now all (aAt l k)) := by
  unfold keysR
  rw [List.take_add_one, aAt_get h, List.map_append, flatL_append]; simp [flatL]
/-- Is there no job without a priority? -/
def allB (W : WtS) (now all : Int) (l : List AskS) : Bool := l.all fun x => decide (pE W now all x = 0)
def keysE (W : WtS) (now all : Int) (l : List AskS) : Int := if allB W now all l then (if twiceB (keysR W now all l) then 30 else 0) else 2
def keysL (W : WtS) (now all : Int) (l : List AskS) : List Key := if keysE W now all l = 0 then sortK (keysR W now all l) else []

/-- The jobs l lie from off on in block b. -/
def ACells (w : World) (b off : Nat) (l : List AskS) : Prop := b < w.heap.size ∧ ∀ j, j < l.length →
  w.cell? ⟨b, off + j * 7, none⟩ = some (.int .u32 (aAt l j).id) ∧ w.cell? ⟨b, off + j * 7 + 1, none⟩ = some (.int .i64 (aAt l j).since) ∧ w.cell? ⟨b, off + j * 7 + 2, none⟩ = some (.int .i64 (aAt l j).size) ∧
  w.cell? ⟨b, off + j * 7 + 3, none⟩ = some (.int .i64 (aAt l j).nice) ∧ w.cell? ⟨b, off + j * 7 + 4, none⟩ = some (.int .i64 (aAt l j).qos) ∧ w.cell? ⟨b, off + j * 7 + 5, none⟩ = some (.int .i64 (aAt l j).part) ∧
  w.cell? ⟨b, off + j * 7 + 6, none⟩ = some (.int .i64 (aAt l j).factor)
theorem ACells.kept {w w' : World} {b off : Nat} {l : List AskS} (h : ACells w b off l) (hb : Below w.heap.size w w') : ACells w' b off l :=
  ⟨Nat.lt_of_lt_of_le h.1 hb.size, fun j hj => by
    obtain ⟨c0, c1, c2, c3, c4, c5, c6⟩ := h.2 j hj
    exact ⟨cell_next hb c0, cell_next hb c1, cell_next hb c2, cell_next hb c3, cell_next hb c4, cell_next hb c5, cell_next hb c6⟩⟩
def ARow (w : World) (v : Value) (l : List AskS) : Prop :=
  (l = [] ∧ ∃ a c, v = .slice a 0 c ∧ c ≤ maxLen) ∨ ∃ b off c, v = .slice (some ⟨b, off, none⟩) l.length c ∧ 0 < l.length ∧ l.length ≤ c ∧ c ≤ maxLen ∧ ACells w b off l
theorem ARow.kept {w w' : World} {v : Value} {l : List AskS} (h : ARow w v l) (hb : Below w.heap.size w w') : ARow w' v l := by
  rcases h with h | ⟨b, off, c, h1, h2, h3, h4, h5⟩
  · exact .inl h
  · exact .inr ⟨b, off, c, h1, h2, h3, h4, h5.kept hb⟩
theorem arow_slice {w : World} {v : Value} {l : List AskS} (h : ARow w v l) : ∃ a c, v = .slice a l.length c := by
  rcases h with ⟨rfl, a, c, rfl, _⟩ | ⟨b, off, c, rfl, _⟩
  · exact ⟨a, c, rfl⟩
  · exact ⟨_, c, rfl⟩

section
variable (W : WtS) (now all : Int) (hnow : I64 now) (hall : I64 all)
include hnow hall
theorem prio_ask (x : AskS) (hx : AskOk x) (w : World) : Calls Try.prog 17 #[.agg (wtL W).toArray, .agg (encA x).toArray, .int .i64 now, .int .i64 all] w
    fun e w' => e = .returned (.tuple #[.int .i64 (pV W now all x), .int .i64 (pE W now all x)]) ∧ Below w.heap.size w w' := by
  obtain ⟨h0, h1, h2, h3, h4, h5, h6⟩ := hx
  exact prio_any W.f W.a W.s W.q W.p x.id x.since x.size x.nice x.qos x.part x.factor now all w h1 h2 h4 h5 hnow hall
theorem refPrio_ask (x : AskS) (hx : AskOk x) (w : World) : Calls Try.prog 18 #[.agg (wtL W).toArray, .agg (encA x).toArray, .int .i64 now, .int .i64 all] w
    fun e w' => e = .returned (.tuple #[.int .i64 (pV W now all x), .int .i64 (pE W now all x)]) ∧ Below w.heap.size w w' := by
  obtain ⟨h0, h1, h2, h3, h4, h5, h6⟩ := hx
  exact refPrio_any W.f W.a W.s W.q W.p x.id x.since x.size x.nice x.qos x.part x.factor now all w (wf_u32_0 h0) h1 h2 h4 h5 hnow hall
end

theorem keyIds (W : WtS) (now all : Int) {l : List AskS} (hok : ∀ x ∈ l, AskOk x) : ∀ x ∈ keysR W now all l, (Lit.int .u32 x.2.2).wf = true := by
  intro x hx
  obtain ⟨y, hy, rfl⟩ := List.mem_map.1 hx
  exact (hok y hy).1

theorem krow_owned' {w : World} {base n : Nat} {v : Value} {xs : List Key} (hn : n = xs.length) (h : w.ownsRow base 53 3 v n (flatL xs)) : KRow w v xs := by subst hn; exact krow_of_owns h

set_option maxRecDepth 100000 in
set_option maxHeartbeats 2000000 in
theorem keys_row (b off c : Nat) (W : WtS) (l : List AskS) (now all : Int) (w : World) (hn : l.length ≤ 1048576) (h0 : 0 < l.length) (hnow : I64 now) (hall : I64 all) (hok : ∀ x ∈ l, AskOk x) (hc : ACells w b off l) :
    Calls Try.prog 19 #[.agg (wtL W).toArray, .slice (some ⟨b, off, none⟩) l.length c, .int .i64 now, .int .i64 all] w
      fun e w' => ∃ v', e = .returned (.tuple #[v', .int .i64 (keysE W now all l)]) ∧ KRow w' v' (keysL W now all l) ∧ Below w.heap.size w w' := by
  obtain ⟨i0, hi, hz0, hz1, hz2'⟩ := info_parts Try.infoKey
  have HC := Lib.hid hc
  have HP : Hid (∀ j, j < l.length → ∀ w, Calls Try.prog 17 #[.agg (wtL W).toArray, .agg (encA (aAt l j)).toArray, .int .i64 now, .int .i64 all] w
      fun e w' => e = .returned (.tuple #[.int .i64 (pV W now all (aAt l j)), .int .i64 (pE W now all (aAt l j))]) ∧ Below w.heap.size w w') := fun j hj w => prio_ask W now all hnow hall _ (hok _ (aAt_mem hj)) w
  have HE : Hid (keysE W now all l = if allB W now all l then (if twiceB (keysR W now all l) then 30 else 0) else 2) := rfl
  have HL : Hid (keysL W now all l = if keysE W now all l = 0 then sortK (keysR W now all l) else []) := rfl
  have HSt : Hid (∀ v w1, twiceB (keysR W now all l) = true → KRow w1 v (keysR W now all l) → Calls Try.prog 28 #[v] w1 fun e w' => e = .returned (.tuple #[.slice none 0 0, .int .i64 30]) ∧ Below w1.heap.size w1 w') :=
    fun v w1 ht hk => sort_twice v _ w1 (by simp [keysR]; exact hn) (keyIds W now all hok) hk ht
  have HSo : Hid (∀ v w1, twiceB (keysR W now all l) = false → KRow w1 v (keysR W now all l) → Calls Try.prog 28 #[v] w1 fun e w' => ∃ v', e = .returned (.tuple #[v', .int .i64 0]) ∧ KRow w' v' (sortK (keysR W now all l)) ∧ Below w1.heap.size w1 w') :=
    fun v w1 ht hk => (sort_ok v _ w1 (by simp [keysR]; exact hn) (keyIds W now all hok) hk ht).mono fun e w' ⟨v', he, ho, hb⟩ => ⟨v', he, by rw [← (sortK_perm (keysR W now all l)).length_eq] at ho; exact krow_of_owns ho, hb⟩
  have HAll : Hid (allB W now all l = true ↔ ∀ j, j < l.length → pE W now all (aAt l j) = 0) := by
    unfold Hid allB
    rw [List.all_eq_true]
    constructor
    · intro h j hj; simpa using h _ (aAt_mem hj)
    · intro h x hx
      obtain ⟨j, hj, rfl⟩ := List.getElem_of_mem hx
      have := h j hj
      have e : aAt l j = l[j] := by have := aAt_get hj; rw [List.getElem?_eq_getElem hj] at this; simpa using this.symm
      rw [e] at this; simpa using this
  have HS := Lib.hid (keysR_snoc W now all l)
  have hkl : Hid ((keysR W now all l).length = l.length) := by simp [keysR, Hid]
  clear hc hok hnow hall
  generalize keysL W now all l = res at *
  generalize keysE W now all l = ee at *
  unfold wtL at *
  unfold encA at HP
  go_enter Try.func19, Try.ntmps19
  go_wp2_with fail
  go_loopw [10, 18] (fun o i wr => ∃ j : Nat, j ≤ l.length ∧ i = .int .i64 j ∧ (∀ k, k < j → pE W now all (aAt l k) = 0) ∧ wr.ownsRow (w.heap.size + 1) 53 3 o j (flatL (keysR W now all (l.take j))) ∧
      Blk wr w.heap.size #[.int .i64 W.f, .int .i64 W.a, .int .i64 W.s, .int .i64 W.q, .int .i64 W.p] 26 ∧ Below w.heap.size w wr)
    (fun _ i _ => l.length - (intOf i).toNat)
  case atStart =>
    exact ⟨0, Nat.zero_le _, rfl, fun j hj => absurd hj (Nat.not_lt_zero _), (by have h := World.ownsRow_made (e := 53) (size := 3) (base := w.heap.size + 1) (w.alloc (.cells #[.int .i64 W.f, .int .i64 W.a, .int .i64 W.s, .int .i64 W.q, .int .i64 W.p] 26)) #[] 0 (by simp) (Nat.zero_le _) (by simp); rw [World.size_alloc] at h; exact h), (Blk.new _ _ _).old _, ((Below.refl _ _).alloc (Nat.le_refl _) _).alloc (by simp) _⟩
  case round =>
    obtain ⟨j, hj, rfl, he0, hown, hwb, hB⟩ := hrel
    have HE0 := Lib.hid he0
    have HO := Lib.hid hown
    have HB := Lib.hid hB
    have HWB := Lib.hid hwb
    clear he0 hown hB
    by_cases hlt : j < l.length
    · have hlt' : decide (j < l.length) = true := decide_eq_true hlt
      have hlt2 : (j : Int) < l.length := by omega
      obtain ⟨c0, c1, c2, c3, c4, c5, c6⟩ := (HC.out.kept HB.out).2 j hlt
      have HP1 := Lib.hid (HP.out j hlt)
      have HS1 := Lib.hid (HS.out j hlt)
      have HE1 : Hid (pE W now all (aAt l j) = 0 ∨ pE W now all (aAt l j) = 2) := pE_two _ _ _ _
      obtain ⟨x, hx⟩ : ∃ x, x = aAt l j := ⟨_, rfl⟩
      rw [← hx] at c0 c1 c2 c3 c4 c5 c6 HP1 HS1 HE1
      have HX := Lib.hid hx
      have HKO : Hid (keyOf W now all x = (pV W now all x, x.since, x.id)) := rfl
      clear hx
      have hz : w.heap.size < wr.heap.size := HWB.out.lt
      have g0 := hwb.cell 0; simp at g0
      have g1 := hwb.cell 1; simp at g1
      have g2 := hwb.cell 2; simp at g2
      have g3 := hwb.cell 3; simp at g3
      have g4 := hwb.cell 4; simp at g4
      generalize keyOf W now all x = ky at *
      generalize hpv : pV W now all x = pv at *
      generalize hpe : pE W now all x = pe at *
      clear hwb hpv
      have HPE := Lib.hid hpe
      clear hpe
      rcases HE1.out with rfl | rfl
      · go_wp2_with fail
        refine (HP1.out _).mono ?_; rintro e w2 ⟨rfl, b2⟩
        have B2 : Hid (Below w.heap.size w w2) := below_next b2 (HB.out.alloc HB.out.size _)
        have XB : Hid (Blk w2 wr.heap.size #[.int .u32 x.id, .int .i64 x.since, .int .i64 x.size, .int .i64 x.nice, .int .i64 x.qos, .int .i64 x.part, .int .i64 x.factor] 29) := (Blk.new _ _ _).kept b2
        have OW := Lib.hid (owns_below (HO.out.alloc _) b2)
        have WB := Lib.hid ((HWB.out.old _).kept b2)
        have x0 := XB.out.cell 0; simp at x0
        have x1 := XB.out.cell 1; simp at x1
        have hz2 : w.heap.size + 1 ≤ w2.heap.size := by have := WB.out.lt; omega
        clear b2 c0 c1 c2 c3 c4 c5 c6 g0 g1 g2 g3 g4
        go_wp2_with (at_builtin; refine wpList_append_own _ rfl _ _ 37 rfl (w.heap.size + 1) 53 i0 _ 3 24 Try.underlying37 hi hz0 hz1 hz2' rfl (by decide) _ j _ rfl (World.ownsRow.alloc OW.out _) ⟨w2.heap.size, 0, none⟩ 1 1 (encK (pv, x.since, x.id)) rfl rfl (news_key (x := (pv, x.since, x.id)) (Blk.new _ _ _)) (encK_one _) (by unfold maxLen; omega) (by omega) (by simp; omega) ?_; intro v4 w4 hown4 hgrow4 _)
        go_roundw
        case rel =>
          refine ⟨j + 1, hlt, by go_num, ?_, by rw [HS1.out, HKO.out]; exact hown4, (WB.out.old _).grown hgrow4 (fun e => ?_), (B2.out.alloc (by omega) _).grown hgrow4 (by simp; omega) (fun k hk => ?_)⟩
          · intro k hk
            rcases Nat.lt_succ_iff_lt_or_eq.1 hk with h | rfl
            · exact HE0.out k h
            · rw [← HX.out]; exact HPE.out
          · have := (OW.out.lt w.heap.size e.symm).1; omega
          · have := (OW.out.lt k hk).1; omega
        case measure => simp [intOf]; omega
      · have ER : Hid (ee = 2) := by
          have h : allB W now all l = false := by
            rw [← Bool.not_eq_true, HAll.out]
            intro hh
            have := hh j hlt
            rw [← HX.out, HPE.out] at this; omega
          have := HE.out; rw [h] at this; exact this
        have RR : Hid (∀ w', KRow w' (.slice none 0 0) res) := fun w' => by
          rw [HL.out, ER.out, if_neg (by omega)]; exact .inl ⟨rfl, none, 0, rfl, Nat.zero_le _⟩
        obtain rfl := ER.out
        clear ER HE HL HAll HSt HSo HS HS1 HX HPE HKO HE0 HO HWB HC HP hkl
        go_wp2_with fail
        refine (HP1.out _).mono ?_; rintro e w2 ⟨rfl, b2⟩
        have B2 : Hid (Below w.heap.size w w2) := below_next b2 (HB.out.alloc HB.out.size _)
        clear b2 c0 c1 c2 c3 c4 c5 c6 g0 g1 g2 g3 g4
        go_wp2_with fail
        go_ret2
        exact ⟨_, rfl, RR.out _, B2.out⟩
    · obtain rfl : j = l.length := by omega
      have hlt' : decide (l.length < l.length) = false := decide_eq_false (by omega)
      have HA : Hid (allB W now all l = true) := HAll.out.2 HE0.out
      have KR : Hid (KRow wr u10 (keysR W now all l)) := by
        have := HO.out
        rw [List.take_length] at this
        exact krow_owned' hkl.out.symm this
      have HE2 : Hid (ee = if twiceB (keysR W now all l) then 30 else 0) := by have := HE.out; rw [HA.out] at this; exact this
      clear HE HAll HS HC HP HWB hwb HE0 HO HA
      cases ht : twiceB (keysR W now all l)
      · have HS2 := Lib.hid (HSo.out _ _ ht KR.out)
        rw [ht] at HE2
        obtain rfl : ee = 0 := HE2.out
        have HL2 : Hid (res = sortK (keysR W now all l)) := HL.out
        clear HL HSo HSt ht HE2
        rw [← HL2.out] at HS2
        go_wp2_with fail
        refine HS2.out.mono ?_; rintro e w2 ⟨v2, rfl, hk2, b2⟩
        have HK2 := Lib.hid hk2
        clear hk2
        go_wp2_with fail
        go_ret2
        exact ⟨v2, rfl, HK2.out, below_next b2 HB.out⟩
      · have HS2 := Lib.hid (HSt.out _ _ ht KR.out)
        rw [ht] at HE2
        obtain rfl : ee = 30 := HE2.out
        have HL2 : Hid (∀ w', KRow w' (.slice none 0 0) res) := fun w' => by rw [HL.out, if_neg (by decide)]; exact .inl ⟨rfl, none, 0, rfl, Nat.zero_le _⟩
        clear HL HSo HSt ht HE2
        go_wp2_with fail
        refine HS2.out.mono ?_; rintro e w2 ⟨rfl, b2⟩
        go_wp2_with fail
        go_ret2
        exact ⟨_, rfl, HL2.out _, below_next b2 HB.out⟩
theorem keysE_nil (W : WtS) (now all : Int) : keysE W now all [] = 0 := by simp [keysE, allB, keysR, twiceB, idsOk]
theorem keysL_nil (W : WtS) (now all : Int) : keysL W now all [] = [] := by unfold keysL; rw [keysE_nil]; simp [keysR, sortK]
theorem keys_nil (a : Option Addr) (c : Nat) (W : WtS) (now all : Int) (w : World) :
    Calls Try.prog 19 #[.agg (wtL W).toArray, .slice a 0 c, .int .i64 now, .int .i64 all] w
      fun e w' => ∃ v', e = .returned (.tuple #[v', .int .i64 0]) ∧ KRow w' v' [] ∧ Below w.heap.size w w' := by
  have HSo : Hid (∀ A w1, Calls Try.prog 28 #[.slice (some A) 0 0] w1 fun e w' => ∃ v', e = .returned (.tuple #[v', .int .i64 0]) ∧ KRow w' v' [] ∧ Below w1.heap.size w1 w') :=
    fun A w1 => (sort_ok (.slice (some A) 0 0) [] w1 (by simp) (fun x hx => nomatch hx) (.inl ⟨rfl, some A, 0, rfl, Nat.zero_le _⟩) (by decide)).mono fun e w' ⟨v', he, ho, hb⟩ => by
      have e0 : sortK [] = [] := by simp [sortK]
      rw [e0] at ho
      exact ⟨v', he, krow_of_owns (xs := []) ho, hb⟩
  unfold wtL
  go_enter Try.func19, Try.ntmps19
  go_wp2_with fail
  refine wp_loop_rounds 1 ?_
  rw [rounds_succ]
  go_wp2_with fail
  refine (HSo.out _ _).mono ?_; rintro e w2 ⟨v2, rfl, hk2, b2⟩
  have HK2 := Lib.hid hk2
  clear hk2
  go_wp2_with fail
  go_ret2
  exact ⟨v2, rfl, HK2.out, below_next b2 (((Below.refl _ _).alloc (Nat.le_refl _) _).alloc (by simp) _)⟩
/-- prio.Keys: at any jobs. -/
theorem keys_any (v : Value) (W : WtS) (l : List AskS) (now all : Int) (w : World) (hn : l.length ≤ 1048576) (hnow : I64 now) (hall : I64 all) (hok : ∀ x ∈ l, AskOk x) (h : ARow w v l) :
    Calls Try.prog 19 #[.agg (wtL W).toArray, v, .int .i64 now, .int .i64 all] w
      fun e w' => ∃ v', e = .returned (.tuple #[v', .int .i64 (keysE W now all l)]) ∧ KRow w' v' (keysL W now all l) ∧ Below w.heap.size w w' := by
  rcases h with ⟨rfl, a, c, rfl, _⟩ | ⟨b, off, c, rfl, h0, h1, h2, hc⟩
  · rw [keysE_nil, keysL_nil]; exact keys_nil a c W now all w
  · exact keys_row b off c W l now all w hn h0 hnow hall hok hc

/-- What First says. -/
def firstE (W : WtS) (now all : Int) (l : List AskS) : Int := if keysE W now all l ≠ 0 then keysE W now all l else if keysL W now all l = [] then 4 else 0
def firstV (W : WtS) (now all : Int) (l : List AskS) : Int := match keysL W now all l with | [] => 0 | k :: _ => k.2.2
theorem keysL_bad {W : WtS} {now all : Int} {l : List AskS} (h : keysE W now all l ≠ 0) : keysL W now all l = [] := by unfold keysL; rw [if_neg h]

theorem first_any (v : Value) (W : WtS) (l : List AskS) (now all : Int) (w : World) (hn : l.length ≤ 1048576) (hnow : I64 now) (hall : I64 all) (hok : ∀ x ∈ l, AskOk x) (h : ARow w v l) :
    Calls Try.prog 21 #[.agg (wtL W).toArray, v, .int .i64 now, .int .i64 all] w
      fun e w' => e = .returned (.tuple #[.int .u32 (firstV W now all l), .int .i64 (firstE W now all l)]) ∧ Below w.heap.size w w' := by
  have HK : Hid (∀ w1, Below w.heap.size w w1 → Calls Try.prog 19 #[.agg (wtL W).toArray, v, .int .i64 now, .int .i64 all] w1
      fun e w' => ∃ v', e = .returned (.tuple #[v', .int .i64 (keysE W now all l)]) ∧ KRow w' v' (keysL W now all l) ∧ Below w1.heap.size w1 w') := fun w1 hb => keys_any v W l now all w1 hn hnow hall hok (h.kept hb)
  have HF : Hid (firstE W now all l = if keysE W now all l ≠ 0 then keysE W now all l else if keysL W now all l = [] then 4 else 0) := rfl
  have HV : Hid (firstV W now all l = match keysL W now all l with | [] => 0 | k :: _ => k.2.2) := rfl
  have HB : Hid (keysE W now all l ≠ 0 → keysL W now all l = []) := keysL_bad
  clear hn hnow hall hok h
  generalize firstE W now all l = fe at *
  generalize firstV W now all l = fv at *
  generalize keysE W now all l = ee at *
  generalize keysL W now all l = ks at *
  unfold wtL at *
  by_cases hee : ee = 0
  · subst hee
    cases ks with
    | nil =>
      obtain rfl : fe = 4 := HF.out
      obtain rfl : fv = 0 := HV.out
      clear HF HV HB
      go_enter Try.func21, Try.ntmps21
      go_wp2_with fail
      refine (HK.out _ ((Below.refl _ _).alloc (Nat.le_refl _) _)).mono ?_; rintro e w1 ⟨v1, rfl, hk1, b1⟩
      obtain ⟨a1, c1, rfl⟩ : ∃ a c, v1 = .slice a 0 c := by
        rcases hk1 with ⟨_, a, c, rfl, _⟩ | ⟨b, off, c, rfl, h0, _⟩
        · exact ⟨a, c, rfl⟩
        · simp at h0
      clear hk1
      go_wp2_with fail
      go_ret2
      exact ⟨rfl, below_next b1 ((Below.refl _ _).alloc (Nat.le_refl _) _)⟩
    | cons k r =>
      obtain rfl : fe = 0 := HF.out
      obtain rfl : fv = k.2.2 := HV.out
      clear HF HV HB
      go_enter Try.func21, Try.ntmps21
      go_wp2_with fail
      refine (HK.out _ ((Below.refl _ _).alloc (Nat.le_refl _) _)).mono ?_; rintro e w1 ⟨v1, rfl, hk1, b1⟩
      obtain ⟨b', off, c1, rfl, hc1, hx⟩ : ∃ b off c, v1 = .slice (some ⟨b, off, none⟩) (r.length + 1) c ∧ r.length + 1 ≤ 9223372036854775807 ∧ w1.cell? ⟨b, off + 2, none⟩ = some (.int .u32 k.2.2) := by
        rcases hk1 with ⟨h, _⟩ | ⟨b, off, c, hv, h0, h1, h2, hc⟩
        · cases h
        · exact ⟨b, off, c, hv, by unfold maxLen at h2; simp at h1; omega, by have := (hc.2 0 (by simp)).2.2; simpa using this⟩
      have t0 : ((r.length + 1 : Nat) == 0) = false := by simp
      have t1 : (((r.length + 1 : Nat) : Int) == 0) = false := by simp; omega
      have t2 : (0 : Int) < ((r.length + 1 : Nat) : Int) := by omega
      have t3 : 0 < r.length + 1 := by omega
      clear hk1
      generalize r.length + 1 = n at *
      go_wp2_with fail
      go_ret2
      exact ⟨rfl, below_next b1 ((Below.refl _ _).alloc (Nat.le_refl _) _)⟩
  · have hks := HB.out hee
    have E : fe = ee := by have := HF.out; simpa [hee] using this
    subst hks E
    obtain rfl : fv = 0 := HV.out
    have t : (fe != 0) = true := by simpa using hee
    clear HF HV HB hee
    go_enter Try.func21, Try.ntmps21
    go_wp2_with fail
    refine (HK.out _ ((Below.refl _ _).alloc (Nat.le_refl _) _)).mono ?_; rintro e w1 ⟨v1, rfl, hk1, b1⟩
    clear hk1
    go_wp2_with fail
    go_ret2
    exact ⟨rfl, below_next b1 ((Below.refl _ _).alloc (Nat.le_refl _) _)⟩
end Go.Proofs.Ytjhabfhpjpkpbaa
