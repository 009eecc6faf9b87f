/-
  gangerlaw11.four, copied, many, known.
  gangerlaw11.known is true; many, copied: at any arguments.
  gangerlaw11.known is true.
  What the row's listed variables give to the calls of layer 11; answers alike.
-/
import Derived.Test.YtbnlmeegepgioaaDoorShPg
import Derived.Test.YtbnlmeegepgioaaDoorShRf
import Derived.Test.YtbnlmeegepgioaaDoorSmI
import Derived.Test.YtbnlmeegepgioaaDoorApp
import Derived.Test.YtbnlmeegepgioaaDoorShE
import Derived.Test.YtbnlmeegepgioaaDoorGrI
import Derived.Test.YtbnlmeegepgioaaDoorLaid
import Derived.Test.YtbnlmeegepgioaaDoorRows
import Derived.MakeChecks
import Derived.Shelf.Vars
import Derived.Lib.LaidU8T
namespace Go.Proofs.YtbnlmeegepgioaaDoor
set_option linter.unusedVariables false

section
open Go Go.RowKit Go.Lib
def fourL : List AcT := [(⟨#[114, 111, 111, 116]⟩, ByteArray.empty, 1), (⟨#[112, 104, 121, 115]⟩, ⟨#[114, 111, 111, 116]⟩, 3), (⟨#[99, 104, 101, 109]⟩, ⟨#[114, 111, 111, 116]⟩, 1), (⟨#[97, 110, 110]⟩, ⟨#[112, 104, 121, 115]⟩, 1)]
def ownK : List Int := [0, 40, 60, 0]
theorem four_ok : AccOk fourL := by
  refine ⟨by decide, by decide, ⟨fun i h hk => ?_, fun i h hk j hj => ?_⟩, fun i h hk => ?_⟩
  · have hi : i < 4 := h
    rcases (by omega : i = 0 ∨ i = 1 ∨ i = 2 ∨ i = 3) with rfl | rfl | rfl | rfl <;> decide +kernel +revert
  · have hi : i < 4 := h
    rcases (by omega : i = 0 ∨ i = 1 ∨ i = 2 ∨ i = 3) with rfl | rfl | rfl | rfl
    · omega
    · obtain rfl : j = 0 := by omega
      decide +kernel +revert
    · rcases (by omega : j = 0 ∨ j = 1) with rfl | rfl <;> decide +kernel +revert
    · rcases (by omega : j = 0 ∨ j = 1 ∨ j = 2) with rfl | rfl | rfl <;> decide +kernel +revert
  · have hi : i < 4 := h
    rcases (by omega : i = 0 ∨ i = 1 ∨ i = 2 ∨ i = 3) with rfl | rfl | rfl | rfl
    · exact .inl ⟨rfl, rfl⟩
    · exact .inr ⟨by omega, List.Mem.head _⟩
    · exact .inr ⟨by omega, List.Mem.head _⟩
    · exact .inr ⟨by omega, List.Mem.tail _ (List.Mem.head _)⟩
theorem own_okK : OwnOk fourL ownK := ⟨rfl, by decide⟩
theorem four_sums : rowI (sumI fourL (ownN ownK)) 4 = [100, 40, 60, 0] := by decide +kernel
theorem four_norms : rowI (normI fourL) 4 = [65536, 49152, 16384, 49152] := by decide +kernel
theorem four_parts : rowI (partI fourL (ownN ownK)) 4 = [65536, 26214, 39321, 0] := by decide +kernel
theorem four_facs : rowI (facI fourL (ownN ownK)) 4 = [32768, 42741, 19275, 65536] := by decide +kernel
theorem four_short : ∀ p ∈ fourL, Short p.1 ∧ Short p.2.1 := by
  intro p hp
  unfold fourL at hp
  simp only [List.mem_cons, List.not_mem_nil, or_false] at hp
  rcases hp with rfl | rfl | rfl | rfl <;> exact ⟨by unfold Short; decide, by unfold Short; decide⟩
set_option maxRecDepth 100000 in
theorem four_any (w : World) : Calls Tryd.prog 22 #[] w fun e w' => ∃ v, e = .returned v ∧ AcRow w' v fourL ∧ Below w.heap.size w w' := by
  go_enter Tryd.func22, Tryd.ntmps22
  go_wp2_with fail
  go_ret
  refine ⟨_, rfl, .inr ⟨w.heap.size, 0, 4, rfl, by decide, fun i hi j u hu => ?_⟩, (Below.refl _ _).alloc (Nat.le_refl _) _⟩
  have hi' : i < 4 := hi
  have hj : j < 3 := (List.getElem?_eq_some_iff.1 hu).1
  rw [Blk.cell (Blk.new w _ _)]
  rcases (by omega : i = 0 ∨ i = 1 ∨ i = 2 ∨ i = 3) with rfl | rfl | rfl | rfl <;> (rcases (by omega : j = 0 ∨ j = 1 ∨ j = 2) with rfl | rfl | rfl <;> exact hu)
/-- A call's answer at accounts that may be. -/
theorem res_ok {l : List AcT} {own : List Int} {f : Nat → Nat} {w w' : World} {e : Ending} (hA : AccOk l) (hO : OwnOk l own) (h : ResPost l own f w e w') : ∃ v, e = .returned (.tuple #[v, .int .i64 0]) ∧ NOwn w' w.heap.size v (rowI f l.length) ∧ Below w.heap.size w w' := by
  obtain ⟨er, v, L, he, hc, hL, hv, hb⟩ := h
  have h0 : er = 0 := hc.det (.inl ⟨rfl, hA, hO⟩)
  subst h0
  rcases hL with ⟨_, rfl⟩ | ⟨h1, _⟩
  · exact ⟨v, he, hv, hb⟩
  · exact absurd rfl h1
theorem ResPost.det {l : List AcT} {own : List Int} {f : Nat → Nat} {w1 w2 w1' w2' : World} {e1 e2 : Ending} (h1 : ResPost l own f w1 e1 w1') (h2 : ResPost l own f w2 e2 w2') :
    ∃ (er : Int) (v1 v2 : Value) (L : List Int), e1 = .returned (.tuple #[v1, .int .i64 er]) ∧ e2 = .returned (.tuple #[v2, .int .i64 er]) ∧ ShCode l own er ∧ ((er = 0 ∧ L = rowI f l.length) ∨ (er ≠ 0 ∧ L = [])) ∧ NOwn w1' w1.heap.size v1 L ∧ NOwn w2' w2.heap.size v2 L ∧ Below w1.heap.size w1 w1' ∧ Below w2.heap.size w2 w2' := by
  obtain ⟨er, v, L, he, hc, hL, hv, hb⟩ := h1
  obtain ⟨er2, v2, L2, he2, hc2, hL2, hv2, hb2⟩ := h2
  have e := hc.det hc2
  subst e
  have eL : L2 = L := by
    rcases hL with ⟨a, b⟩ | ⟨a, b⟩ <;> rcases hL2 with ⟨c, d⟩ | ⟨c, d⟩
    · rw [b, d]
    · exact absurd a c
    · exact absurd c a
    · rw [b, d]
  subst eL
  exact ⟨er, v, v2, L2, he, he2, hc, hL, hv, hv2, hb, hb2⟩
theorem nil_bad (er : Int) (h : ShCode fourL [] er) : er = 2 := by
  rcases h with ⟨_, _, h⟩ | ⟨_, h⟩ | ⟨h, _⟩
  · have := h.1; cases this
  · exact absurd four_ok h
  · exact h
end

section
open Go Go.RowKit Go.Lib
theorem src_of_grow {w : World} {v : Value} {l : List Int} (h : GRow w v l) : Src w 1 v l.length (numsL l) := by
  refine ⟨by rw [numsL_len, Nat.mul_one], ?_⟩
  rcases h with ⟨rfl, a, c, rfl⟩ | ⟨b, off, c, rfl, hc⟩
  · cases a with
    | none => exact .inl ⟨c, rfl, rfl⟩
    | some a => exact .inr ⟨a, c, rfl, fun j u hu => by simp [numsL] at hu⟩
  · refine .inr ⟨_, c, rfl, fun j u hu => ?_⟩
    have hj : j < l.length := by rw [← numsL_len]; exact (List.getElem?_eq_some_iff.1 hu).1
    rw [Addr.add_lit, hc j hj, ← hu, numsL_get hj]
set_option maxHeartbeats 4000000 in
theorem copied_any (v : Value) (l : List Int) (w : World) (hn : l.length ≤ 1048576) (h : GRow w v l) :
    Calls Tryd.prog 12 #[v] w fun e w' => ∃ v', e = .returned v' ∧ NOwn w' w.heap.size v' l ∧ Below w.heap.size w w' := by
  obtain ⟨i0, hi, hz0, hz1, hz2⟩ := info_parts Tryd.infoNum
  have SRC := Lib.hid (src_of_grow h)
  have ONE := Lib.hid (numsL_one l)
  obtain ⟨oa, oc, rfl⟩ := h.slice
  obtain ⟨N, hN⟩ : ∃ N, N = l.length := ⟨_, rfl⟩
  rw [← hN] at SRC hn ⊢
  have HN := Lib.hid hN
  clear h hN
  go_enter Tryd.func12, Tryd.ntmps12
  go_wp2_with (at_builtin; refine wpList_app rfl _ _ 23 rfl w.heap.size 3 i0 _ 1 8 Tryd.underlying23 hi hz0 hz1 hz2 rfl (by decide) (.slice none 0 0) 0 [] rfl (World.ownsRow_nil _ _ _ _) _ N (numsL l) rfl SRC.out ONE.out (by unfold maxLen; omega) (by omega) (Nat.le_refl _) ?_; intro v5 w5 hown5 hgrow5 _)
  go_ret
  refine ⟨v5, rfl, ?_, (Below.refl _ w).grown hgrow5 (Nat.le_refl _) (fun q hq => by cases hq)⟩
  rw [Nat.zero_add, List.nil_append] at hown5
  rw [HN.out] at hown5
  exact hown5
def longA (p : AcT) : Bool := decide (300 < p.1.size) || decide (300 < p.2.1.size)
def manyA (l : List AcT) (n : Nat) : Bool := decide (60 < l.length) || decide (100 < n) || l.any longA
theorem many_no {l : List AcT} {n : Nat} (h : manyA l n = false) : l.length ≤ 60 ∧ n ≤ 100 ∧ ∀ p ∈ l, Short p.1 ∧ Short p.2.1 := by
  unfold manyA longA at h
  simp only [Bool.or_eq_false_iff, decide_eq_false_iff_not, List.any_eq_false, Bool.or_eq_true, decide_eq_true_eq] at h
  refine ⟨by omega, by omega, fun p hp => ?_⟩
  have := h.2 p hp
  unfold Short
  exact ⟨by omega, by omega⟩
theorem any_take_step {l : List AcT} {k : Nat} (hk : k < l.length) : (l.take (k + 1)).any longA = ((l.take k).any longA || longA l[k]) := by
  rw [List.take_add_one, List.getElem?_eq_getElem hk, List.any_append]; simp
set_option maxRecDepth 100000 in
set_option maxHeartbeats 4000000 in
theorem many11_any (v : Value) (l : List AcT) (oa : Option Addr) (n oc : Nat) (w : World) (hv : AcRow w v l) (hm : l.length ≤ maxLen) (hs : ∀ p ∈ l, p.1.size ≤ maxLen ∧ p.2.1.size ≤ maxLen) (hn : n ≤ maxLen) :
    Calls Tryd.prog 10 #[v, .slice oa n oc] w fun e w' => e = .returned (.bool (manyA l n)) ∧ Below w.heap.size w w' := by
  have hm63 : l.length ≤ 9223372036854775807 := by unfold maxLen at hm; omega
  have hn63 : n ≤ 9223372036854775807 := by unfold maxLen at hn; omega
  obtain ⟨va, vc, rfl⟩ := hv.slice
  by_cases h60 : 60 < l.length
  · have e : manyA l n = true := by unfold manyA; rw [decide_eq_true h60]; rfl
    rw [e]
    have q1 : decide (60 < l.length) = true := decide_eq_true h60
    have q2 : decide ((l.length : Int) > 60) = true := decide_eq_true (by omega)
    clear hv hs e
    go_enter Tryd.func10, Tryd.ntmps10
    go_wp2_with fail
    go_ret
    exact ⟨rfl, Below.refl _ _⟩
  · have q1 : decide (60 < l.length) = false := decide_eq_false h60
    have q2 : decide ((l.length : Int) > 60) = false := decide_eq_false (by omega)
    by_cases h100 : 100 < n
    · have e : manyA l n = true := by unfold manyA; rw [decide_eq_true h100, q1]; rfl
      rw [e]
      have q3 : decide (100 < n) = true := decide_eq_true h100
      have q4 : decide ((n : Int) > 100) = true := decide_eq_true (by omega)
      clear hv hs e
      go_enter Tryd.func10, Tryd.ntmps10
      go_wp2_with fail
      go_ret
      exact ⟨rfl, Below.refl _ _⟩
    · have q3 : decide (100 < n) = false := decide_eq_false h100
      have q4 : decide ((n : Int) > 100) = false := decide_eq_false (by omega)
      have e : manyA l n = (l.take l.length).any longA := by unfold manyA; rw [q1, q3, List.take_length]; rfl
      rw [e]
      have HV := Lib.hid hv
      have HS := Lib.hid hs
      have hl60 : l.length ≤ 60 := by omega
      obtain ⟨LN, hLN⟩ : ∃ L, L = l.length := ⟨_, rfl⟩
      rw [← hLN] at HV q1 q2 hl60 hm63 ⊢
      have HLN := Lib.hid hLN
      clear hv hs e hLN hm hn h60 h100
      go_enter Tryd.func10, Tryd.ntmps10
      go_wp2_with fail
      go_loopw [5] (fun iv wr => ∃ k : Nat, k ≤ LN ∧ iv = .int .i64 k ∧ Hid ((l.take k).any longA = false) ∧ Hid (Below w.heap.size w wr)) (fun iv _ => LN - (RowKit.intOf iv).toNat)
      case atStart => exact ⟨0, Nat.zero_le _, rfl, rfl, Below.refl _ _⟩
      case round =>
        obtain ⟨k, hk, rfl, HK, HB⟩ := hrel
        by_cases hlt : k < LN
        · have hd : decide (k < LN) = true := decide_eq_true hlt
          have hki : (k : Int) < (LN : Int) := by omega
          have hkl : k < l.length := by rw [← HLN.out]; exact hlt
          obtain ⟨b, off, hva, hcell⟩ := HV.out.at hkl
          subst hva
          have hstep := any_take_step hkl
          rw [HK.out, Bool.false_or] at hstep
          have hse := HS.out _ (List.getElem_mem hkl)
          obtain ⟨⟨nm, pn, x2⟩, hx⟩ : ∃ x, x = l[k] := ⟨_, rfl⟩
          rw [← hx] at hcell hstep hse
          have c0 := hcell wr HB.out 0 _ rfl
          have c1 := hcell wr HB.out 1 _ rfl
          dsimp only at c0 c1 hse
          simp only [Nat.add_zero] at c0
          have hn1 : nm.size ≤ 9223372036854775807 := by have := hse.1; unfold maxLen at this; omega
          have hn2 : pn.size ≤ 9223372036854775807 := by have := hse.2; unfold maxLen at this; omega
          have HST := Lib.hid hstep
          clear hcell hx hstep hse
          by_cases g1 : 300 < nm.size
          · have f1 : decide (300 < nm.size) = true := decide_eq_true g1
            have f2 : decide ((nm.size : Int) > 300) = true := decide_eq_true (by omega)
            have HT : Hid ((l.take LN).any longA = true) := by
              have h1 : (l.take (k + 1)).any longA = true := by rw [HST.out]; unfold longA; rw [f1]; rfl
              unfold Hid
              rw [List.any_eq_true] at h1 ⊢
              obtain ⟨x, hx, hy⟩ := h1
              refine ⟨x, ?_, hy⟩
              rw [HLN.out, List.take_length]
              exact List.mem_of_mem_take hx
            go_wp2_with fail
            first | go_quiet (fail) | skip
            go_wp2_with fail
            go_ret
            exact ⟨by (rw [HT.out]; rfl), by first | exact HB.out | exact below_drewN HB.out _⟩
          · have f1 : decide (300 < nm.size) = false := decide_eq_false g1
            have f2 : decide ((nm.size : Int) > 300) = false := decide_eq_false (by omega)
            by_cases g2 : 300 < pn.size
            · have f3 : decide (300 < pn.size) = true := decide_eq_true g2
              have f4 : decide ((pn.size : Int) > 300) = true := decide_eq_true (by omega)
              have HT : Hid ((l.take LN).any longA = true) := by
                have h1 : (l.take (k + 1)).any longA = true := by rw [HST.out]; unfold longA; rw [f1, f3]; rfl
                unfold Hid
                rw [List.any_eq_true] at h1 ⊢
                obtain ⟨x, hx, hy⟩ := h1
                refine ⟨x, ?_, hy⟩
                rw [HLN.out, List.take_length]
                exact List.mem_of_mem_take hx
              go_wp2_with fail
              first | go_quiet (fail) | skip
              go_wp2_with fail
              go_ret
              exact ⟨by (rw [HT.out]; rfl), by first | exact HB.out | exact below_drewN HB.out _⟩
            · have f3 : decide (300 < pn.size) = false := decide_eq_false g2
              have f4 : decide ((pn.size : Int) > 300) = false := decide_eq_false (by omega)
              have HT : Hid ((l.take (k + 1)).any longA = false) := by
                unfold Hid; rw [HST.out]; unfold longA; rw [f1, f3]; rfl
              go_wp2_with fail
              first | go_quiet (fail) | skip
              go_wp2_with fail
              go_roundw
              case rel => exact ⟨k + 1, hlt, by go_num, HT, by first | exact HB.out | exact below_drewN HB.out _⟩
              case measure => simp [RowKit.intOf]; omega
        · have hd : decide (k < LN) = false := decide_eq_false hlt
          have hki : ¬ (k : Int) < (LN : Int) := by omega
          have HR : Hid ((l.take LN).any longA = false) := by
            have : k = LN := by omega
            unfold Hid; rw [← this]; exact HK.out
          clear hlt hk
          go_wp2_with fail
          go_ret
          exact ⟨by (rw [HR.out]; rfl), HB.out⟩
end

section
open Go Go.RowKit Go.Lib
theorem own_rowK {w : World} {b : Nat} {t : TypeId} (h : Blk w b #[.int .i64 0, .int .i64 40, .int .i64 60, .int .i64 0] t) : GRow w (.slice (some ⟨b, 0, none⟩) 4 4) ownK := by
  refine .inr ⟨b, 0, 4, rfl, fun j hj => ?_⟩
  have hj' : j < 4 := hj
  rw [h.cell]
  rcases (by omega : j = 0 ∨ j = 1 ∨ j = 2 ∨ j = 3) with rfl | rfl | rfl | rfl <;> rfl
theorem row4 {w : World} {b : Nat} {t : TypeId} {x y z u : Int} (h : Blk w b #[.int .i64 x, .int .i64 y, .int .i64 z, .int .i64 u] t) : GRow w (.slice (some ⟨b, 0, none⟩) 4 4) [x, y, z, u] := by
  refine .inr ⟨b, 0, 4, rfl, fun j hj => ?_⟩
  have hj' : j < 4 := hj
  rw [h.cell]
  rcases (by omega : j = 0 ∨ j = 1 ∨ j = 2 ∨ j = 3) with rfl | rfl | rfl | rfl <;> rfl
set_option maxRecDepth 100000 in
set_option maxHeartbeats 8000000 in
theorem known11_any (w : World) (hT : U8W w) : Calls Tryd.prog 11 #[] w fun e w' => e = .returned (.bool true) ∧ Below w.heap.size w w' := by
  have OB : ∀ x ∈ ownK, x ≤ (9223372036854775807 : Int) := by decide
  have FO : Hid (∀ w1, Calls Tryd.prog 22 #[] w1 fun e w' => ∃ v, e = .returned v ∧ AcRow w' v fourL ∧ Below w1.heap.size w1 w') := four_any
  have SU : Hid (∀ w1 v vo, Below w.heap.size w w1 → AcRow w1 v fourL → GRow w1 vo ownK → Calls Tryd.prog 13 #[v, vo] w1 fun e w' => ∃ r, e = .returned (.tuple #[r, .int .i64 0]) ∧ NOwn w' w1.heap.size r [100, 40, 60, 0] ∧ Below w1.heap.size w1 w') := fun w1 v vo hb hv ho =>
    (sums_any v vo fourL ownK w1 hv four_short (hT.next hb) ho (by decide) OB).mono fun e w' h => by have h := res_ok four_ok own_okK h; rw [show fourL.length = 4 from rfl, four_sums] at h; exact h
  have NO : Hid (∀ w1 v, Below w.heap.size w w1 → AcRow w1 v fourL → Calls Tryd.prog 16 #[v] w1 fun e w' => ∃ r, e = .returned (.tuple #[r, .int .i64 0]) ∧ NOwn w' w1.heap.size r [65536, 49152, 16384, 49152] ∧ Below w1.heap.size w1 w') := fun w1 v hb hv =>
    (norms_any v fourL w1 hv four_short (hT.next hb) (by decide)).mono fun e w' h => by have h := res_ok four_ok (zeros_ok fourL) h; rw [show fourL.length = 4 from rfl, four_norms] at h; exact h
  have PA : Hid (∀ w1 v vo, Below w.heap.size w w1 → AcRow w1 v fourL → GRow w1 vo ownK → Calls Tryd.prog 18 #[v, vo] w1 fun e w' => ∃ r, e = .returned (.tuple #[r, .int .i64 0]) ∧ NOwn w' w1.heap.size r [65536, 26214, 39321, 0] ∧ Below w1.heap.size w1 w') := fun w1 v vo hb hv ho =>
    (parts_any v vo fourL ownK w1 hv four_short (hT.next hb) ho (by decide) OB).mono fun e w' h => by have h := res_ok four_ok own_okK h; rw [show fourL.length = 4 from rfl, four_parts] at h; exact h
  have FA : Hid (∀ w1 v vo, Below w.heap.size w w1 → AcRow w1 v fourL → GRow w1 vo ownK → Calls Tryd.prog 20 #[v, vo] w1 fun e w' => ∃ r, e = .returned (.tuple #[r, .int .i64 0]) ∧ NOwn w' w1.heap.size r [32768, 42741, 19275, 65536] ∧ Below w1.heap.size w1 w') := fun w1 v vo hb hv ho =>
    (factors_any v vo fourL ownK w1 hv four_short (hT.next hb) ho (by decide) (by decide) OB).mono fun e w' h => by have h := res_ok four_ok own_okK h; rw [show fourL.length = 4 from rfl, four_facs] at h; exact h
  have SN : Hid (∀ w1 v, Below w.heap.size w w1 → AcRow w1 v fourL → Calls Tryd.prog 13 #[v, .slice none 0 0] w1 fun e w' => ∃ r, e = .returned (.tuple #[r, .int .i64 2]) ∧ Below w1.heap.size w1 w') := fun w1 v hb hv =>
    (sums_any v (.slice none 0 0) fourL [] w1 hv four_short (hT.next hb) (GRow.none _) (by decide) (by decide)).mono fun e w' ⟨er, r, L, he, hc, _, _, hb⟩ => ⟨r, by rw [he, nil_bad er hc], hb⟩
  have SA : Hid (∀ w1 v v' (xs : List Int), xs.length ≤ 1048576 → GRow w1 v xs → GRow w1 v' xs → Calls Tryd.prog 15 #[v, v'] w1 fun e w' => e = .returned (.bool true) ∧ Below w1.heap.size w1 w') := fun w1 v v' xs hn h h' => by
    have := sameN_any v v' xs xs w1 hn hn h h'
    rwa [decide_eq_true rfl] at this
  clear OB hT
  go_enter Tryd.func11, Tryd.ntmps11
  go_wp2_with fail
  obtain ⟨w1, hw1⟩ : ∃ w1, w1 = w.alloc (.cells #[.int .i64 0, .int .i64 40, .int .i64 60, .int .i64 0] 3) := ⟨_, rfl⟩
  have B1 : Hid (Below w.heap.size w w1) := by unfold Hid; rw [hw1]; exact (Below.refl _ _).alloc (Nat.le_refl _) _
  have O1 : Hid (GRow w1 (.slice (some ⟨w.heap.size, 0, none⟩) 4 4) ownK) := by unfold Hid; rw [hw1]; exact own_rowK (Blk.new w _ _)
  obtain ⟨g, hg⟩ : ∃ g, g = w.heap.size := ⟨_, rfl⟩
  rw [← hg] at O1
  rw [← hw1, ← hg]
  clear hw1 hg
  refine (FO.out _).mono ?_; rintro e w2 ⟨v2, rfl, hv2, b2⟩
  have B2 := Lib.hid (below_next b2 B1.out)
  have O2 := Lib.hid (O1.out.kept b2)
  have V2 := Lib.hid hv2
  obtain ⟨p2, q2, rfl⟩ := hv2.slice
  clear b2 hv2 O1
  go_wp2_with fail
  refine (SU.out _ _ _ B2.out V2.out O2.out).mono ?_; rintro e w3 ⟨r3, rfl, hr3, b3⟩
  have B3 := Lib.hid (below_next b3 B2.out)
  have O3 := Lib.hid (O2.out.kept b3)
  have R3 := Lib.hid (grow_of_own hr3)
  clear b3 hr3 V2 O2
  go_wp2_with fail
  refine (FO.out _).mono ?_; rintro e w4 ⟨v4, rfl, hv4, b4⟩
  have B4 := Lib.hid (below_next b4 B3.out)
  have O4 := Lib.hid (O3.out.kept b4)
  have R4 := Lib.hid (R3.out.kept b4)
  have V4 := Lib.hid hv4
  obtain ⟨p4, q4, rfl⟩ := hv4.slice
  clear b4 hv4 O3 R3
  go_wp2_with fail
  refine (NO.out _ _ B4.out V4.out).mono ?_; rintro e w5 ⟨r5, rfl, hr5, b5⟩
  have B5 := Lib.hid (below_next b5 B4.out)
  have O5 := Lib.hid (O4.out.kept b5)
  have R5 := Lib.hid (R4.out.kept b5)
  have N5 := Lib.hid (grow_of_own hr5)
  clear b5 hr5 O4 R4 V4
  go_wp2_with fail
  refine (FO.out _).mono ?_; rintro e w6 ⟨v6, rfl, hv6, b6⟩
  have B6 := Lib.hid (below_next b6 B5.out)
  have O6 := Lib.hid (O5.out.kept b6)
  have R6 := Lib.hid (R5.out.kept b6)
  have N6 := Lib.hid (N5.out.kept b6)
  have V6 := Lib.hid hv6
  obtain ⟨p6, q6, rfl⟩ := hv6.slice
  clear b6 hv6 O5 R5 N5
  go_wp2_with fail
  refine (PA.out _ _ _ B6.out V6.out O6.out).mono ?_; rintro e w7 ⟨r7, rfl, hr7, b7⟩
  have B7 := Lib.hid (below_next b7 B6.out)
  have O7 := Lib.hid (O6.out.kept b7)
  have R7 := Lib.hid (R6.out.kept b7)
  have N7 := Lib.hid (N6.out.kept b7)
  have P7 := Lib.hid (grow_of_own hr7)
  clear b7 hr7 O6 R6 N6 V6
  go_wp2_with fail
  refine (FO.out _).mono ?_; rintro e w8 ⟨v8, rfl, hv8, b8⟩
  have B8 := Lib.hid (below_next b8 B7.out)
  have O8 := Lib.hid (O7.out.kept b8)
  have R8 := Lib.hid (R7.out.kept b8)
  have N8 := Lib.hid (N7.out.kept b8)
  have P8 := Lib.hid (P7.out.kept b8)
  have V8 := Lib.hid hv8
  obtain ⟨p8, q8, rfl⟩ := hv8.slice
  clear b8 hv8 O7 R7 N7 P7
  go_wp2_with fail
  refine (FA.out _ _ _ B8.out V8.out O8.out).mono ?_; rintro e w9 ⟨r9, rfl, hr9, b9⟩
  have B9 := Lib.hid (below_next b9 B8.out)
  have R9 := Lib.hid (R8.out.kept b9)
  have N9 := Lib.hid (N8.out.kept b9)
  have P9 := Lib.hid (P8.out.kept b9)
  have F9 := Lib.hid (grow_of_own hr9)
  clear b9 hr9 O8 R8 N8 P8 V8
  go_wp2_with fail
  refine (FO.out _).mono ?_; rintro e wa ⟨va, rfl, hva, ba⟩
  have Ba := Lib.hid (below_next ba B9.out)
  have Ra := Lib.hid (R9.out.kept ba)
  have Na := Lib.hid (N9.out.kept ba)
  have Pa := Lib.hid (P9.out.kept ba)
  have Fa := Lib.hid (F9.out.kept ba)
  have Va := Lib.hid hva
  obtain ⟨pa, qa, rfl⟩ := hva.slice
  clear ba hva R9 N9 P9 F9
  go_wp2_with fail
  refine (SN.out _ _ Ba.out Va.out).mono ?_; rintro e wb ⟨rb, rfl, bb⟩
  have Bb := Lib.hid (below_next bb Ba.out)
  have Rb := Lib.hid (Ra.out.kept bb)
  have Nb := Lib.hid (Na.out.kept bb)
  have Pb := Lib.hid (Pa.out.kept bb)
  have Fb := Lib.hid (Fa.out.kept bb)
  clear bb Ra Na Pa Fa Va
  go_wp2_with fail
  have G1 : ∀ (w0 : World) x y z u, Below w0.heap.size w0 (w0.alloc (.cells #[.int .i64 x, .int .i64 y, .int .i64 z, .int .i64 u] 3)) ∧ GRow (w0.alloc (.cells #[.int .i64 x, .int .i64 y, .int .i64 z, .int .i64 u] 3)) (.slice (some ⟨w0.heap.size, 0, none⟩) 4 4) [x, y, z, u] := fun w0 x y z u => ⟨(Below.refl _ _).alloc (Nat.le_refl _) _, row4 (Blk.new w0 _ _)⟩
  have GG := Lib.hid G1
  clear G1
  obtain ⟨k1, j1⟩ := GG.out wb 100 40 60 0
  refine (SA.out _ _ _ _ (by decide) (Rb.out.kept k1) j1).mono ?_; rintro e wc ⟨rfl, bc⟩
  have hc := below_next bc k1
  have Bc := Lib.hid (below_next hc Bb.out)
  have Nc := Lib.hid (Nb.out.kept hc)
  have Pc := Lib.hid (Pb.out.kept hc)
  have Fc := Lib.hid (Fb.out.kept hc)
  clear bc hc k1 j1 Rb Nb Pb Fb
  go_wp2_with fail
  obtain ⟨k1, j1⟩ := GG.out wc 65536 49152 16384 49152
  refine (SA.out _ _ _ _ (by decide) (Nc.out.kept k1) j1).mono ?_; rintro e wd ⟨rfl, bd⟩
  have hc := below_next bd k1
  have Bd := Lib.hid (below_next hc Bc.out)
  have Pd := Lib.hid (Pc.out.kept hc)
  have Fd := Lib.hid (Fc.out.kept hc)
  clear bd hc k1 j1 Nc Pc Fc
  go_wp2_with fail
  obtain ⟨k1, j1⟩ := GG.out wd 65536 26214 39321 0
  refine (SA.out _ _ _ _ (by decide) (Pd.out.kept k1) j1).mono ?_; rintro e we ⟨rfl, be⟩
  have hc := below_next be k1
  have Be := Lib.hid (below_next hc Bd.out)
  have Fe := Lib.hid (Fd.out.kept hc)
  clear be hc k1 j1 Pd Fd
  go_wp2_with fail
  obtain ⟨k1, j1⟩ := GG.out we 32768 42741 19275 65536
  refine (SA.out _ _ _ _ (by decide) (Fe.out.kept k1) j1).mono ?_; rintro e wf ⟨rfl, bf⟩
  have hc := below_next bf k1
  have Bf := Lib.hid (below_next hc Be.out)
  clear bf hc k1 j1 Fe
  go_wp2_with fail
  go_ret
  exact ⟨rfl, Bf.out⟩
end

section
open Go Go.RowKit
/-- What the rows list. -/
def laid11 : List (String × DataW Unit) := [("unicode/utf8.acceptRanges", Rows.laid_unicode_utf8_acceptRanges), ("unicode/utf8.first", Rows.laid_unicode_utf8_first)]
theorem u8_extra : U8Extra Tryd.prog Tryd.laysValid_ren := ⟨by kernel_rfl, by kernel_rfl, by kernel_rfl, by kernel_rfl, by kernel_rfl, by kernel_rfl, by kernel_rfl⟩
theorem env11_of {W : World} (hL : laidMetH Tryd.prog laid11 W) (hS : W.ShapedOpen Tryd.prog) : U8W W := by
  rw [MakeChecks.laidMetH_plain _ _ _ (by kernel_rfl)] at hL
  have h3 : Lib.VarReads Tryd.prog W "unicode/utf8.first" Lib.firstData := Lib.laidMet.reads hL (by
    have e : Rows.laid_unicode_utf8_first = Lib.firstData := by kernel_rfl
    rw [← e]; exact .tail _ (.head _))
  have h4 : Lib.VarReads Tryd.prog W "unicode/utf8.acceptRanges" Lib.acceptData := Lib.laidMet.reads hL (by
    have e : Rows.laid_unicode_utf8_acceptRanges = Lib.acceptData := by kernel_rfl
    rw [← e]; exact .head _)
  exact utf8Tabs_of_readsT (U8Types.of196 Tryd.laysValid) u8_extra h3 h4
theorem acarg_parts {w : World} {v : Value} {l : List AcT} (h : AcArg w v l) : AcRow w v l ∧ l.length ≤ maxLen ∧ ∀ p ∈ l, p.1.size ≤ maxLen ∧ p.2.1.size ≤ maxLen := ⟨h.1, h.2.1, fun p hp => ⟨(h.2.2 p hp).1, (h.2.2 p hp).2.1⟩⟩
theorem ints_len {w : World} {v : Value} {zs : List Int} (h : IntsArg w .i64 v zs) : zs.length ≤ maxLen := by
  rcases h with ⟨rfl, _⟩ | ⟨b, off, c, rfl, h0, h1, _⟩
  · exact Nat.zero_le _
  · exact h1
theorem sh_code (l : List AcT) (own : List Int) : ∃ er, ShCode l own er := by
  by_cases h1 : AccOk l
  · by_cases h2 : OwnOk l own
    · exact ⟨0, .inl ⟨rfl, h1, h2⟩⟩
    · exact ⟨2, .inr (.inr ⟨rfl, h1, h2⟩)⟩
  · exact ⟨100, .inr (.inl ⟨rfl, h1⟩)⟩
/-- A row and a code, named ahead of the calls. -/
theorem ResPost.with {l : List AcT} {own : List Int} {f : Nat → Nat} {er : Int} (hc : ShCode l own er) {w w' : World} {e : Ending} (h : ResPost l own f w e w') :
    ∃ v, e = .returned (.tuple #[v, .int .i64 er]) ∧ NOwn w' w.heap.size v (if er = 0 then rowI f l.length else []) ∧ Below w.heap.size w w' := by
  obtain ⟨er2, v, L, he, hc2, hL, hv, hb⟩ := h
  obtain rfl := hc.det hc2
  refine ⟨v, he, ?_, hb⟩
  rcases hL with ⟨a, b⟩ | ⟨a, b⟩
  · rw [if_pos a, ← b]; exact hv
  · rw [if_neg a, ← b]; exact hv
end

end Go.Proofs.YtbnlmeegepgioaaDoor
