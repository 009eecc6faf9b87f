/-
  share.checkAccounts, check; gangerref11.Check: at any accounts.
  share.check, and gangerref11.Check: at any accounts and numbers.
  gangerref11.Check: at any accounts and numbers.
-/
import Derived.Test.YtbnlmeegepgioaaDoorCfS
import Derived.Test.YtbnlmeegepgioaaDoorShPl
import Derived.Test.YtbnlmeegepgioaaDoorSmI
namespace Go.Proofs.YtbnlmeegepgioaaDoor
set_option linter.unusedVariables false

section
open Go Go.RowKit Go.Lib
theorem rowG_one {α : Type} {s : Nat} {enc : α → List Value} {w : World} {g : Nat} {x : α} {t : TypeId} {cs : Array Value} {c : Nat} (hb : Blk w g cs t) (h : ∀ (j : Nat) (u : Value), (enc x)[j]? = some u → cs[j]? = some u) : RowG s enc w (.slice (some ⟨g, 0, none⟩) 1 c) [x] :=
  .inr ⟨g, 0, c, rfl, by simp, fun i hi j u hu => by
    have : i = 0 := by simp at hi; omega
    subst this
    rw [hb.cell]
    simp only [Nat.zero_add, Nat.zero_mul]
    exact h j u hu⟩
theorem parts_one (nm : ByteArray) (a b c : Int) (h : paOk (nm, a, b, c) = true) : PartsOk [(nm, a, b, c)] :=
  ⟨by simp, by simp, fun i hi _ => by
    have : i = 0 := by simp at hi; omega
    subst this; exact h, fun i hi _ j hj => by simp at hi; omega⟩
theorem classes_one (nm : ByteArray) (a b : Int) (h : clOk (nm, a, b) = true) : ClassesOk [(nm, a, b)] :=
  ⟨by simp, by simp, fun i hi _ => by
    have : i = 0 := by simp at hi; omega
    subst this; exact h, fun i hi _ j hj => by simp at hi; omega⟩
theorem main_ok : paOk (⟨#[109, 97, 105, 110]⟩, 0, 0, 1) = true := by decide
theorem normal_ok : clOk (⟨#[110, 111, 114, 109, 97, 108]⟩, 0, 1) = true := by decide
theorem p_ok : paOk (⟨#[112]⟩, 0, 0, 9) = true := by decide
theorem q_ok : clOk (⟨#[113]⟩, 0, 9) = true := by decide
set_option maxRecDepth 100000 in
set_option maxHeartbeats 4000000 in
theorem checkAccounts_any (v : Value) (l : List AcT) (w : World) (hv : AcRow w v l) (hs : ∀ p ∈ l, Short p.1 ∧ Short p.2.1) (hT : U8W w) :
    Calls Tryd.prog 29 #[v] w fun e w' => CheckPost (AccOk l) w e w' := by
  obtain ⟨va, vc, rfl⟩ := hv.slice
  have HV := Lib.hid hv
  have HS := Lib.hid hs
  have HT := Lib.hid hT
  clear hv hs hT
  go_enter Tryd.func29, Tryd.ntmps29
  go_wp2_with fail
  obtain ⟨wA, hwA⟩ : ∃ wA, wA = w.alloc (.cells #[.string ⟨#[109, 97, 105, 110]⟩, .int .i64 0, .int .i64 0, .int .i64 1] 67) := ⟨_, rfl⟩
  have hbA : Below w.heap.size w wA := by rw [hwA]; exact (Below.refl _ _).alloc (Nat.le_refl _) _
  have hA : Blk wA w.heap.size #[.string ⟨#[109, 97, 105, 110]⟩, .int .i64 0, .int .i64 0, .int .i64 1] 67 := by rw [hwA]; exact Blk.new _ _ _
  have hsz : wA.heap.size = w.heap.size + 1 := by rw [hwA]; exact Array.size_push _
  rw [← hwA, ← hsz]
  obtain ⟨wB, hwB⟩ : ∃ wB, wB = wA.alloc (.cells #[.string ⟨#[110, 111, 114, 109, 97, 108]⟩, .int .i64 0, .int .i64 1] 69) := ⟨_, rfl⟩
  have hbB : Below wA.heap.size wA wB := by rw [hwB]; exact (Below.refl _ _).alloc (Nat.le_refl _) _
  have hB : Blk wB wA.heap.size #[.string ⟨#[110, 111, 114, 109, 97, 108]⟩, .int .i64 0, .int .i64 1] 69 := by rw [hwB]; exact Blk.new _ _ _
  rw [← hwB]
  have hbAB := hbA.trans (hbB.mono hbA.size)
  have hr1 : PRow wB (.slice (some ⟨w.heap.size, 0, none⟩) 1 1) [(⟨#[109, 97, 105, 110]⟩, 0, 0, 1)] := rowG_one (hA.kept hbB) fun j u hu => by simpa [encP] using hu
  have hr2 : QRow wB (.slice (some ⟨wA.heap.size, 0, none⟩) 1 1) [(⟨#[110, 111, 114, 109, 97, 108]⟩, 0, 1)] := rowG_one hB fun j u hu => by simpa [encQ] using hu
  refine (confCheck_any 1 1 1 0 0 0 0 0 0 _ _ _ _ _ l wB hr1 hr2 (HV.out.kept hbAB) ?_ ?_ HS.out (HT.out.next hbAB)).mono ?_
  · intro x hx; rw [List.mem_singleton] at hx; subst hx; unfold Short; decide
  · intro x hx; rw [List.mem_singleton] at hx; subst hx; unfold Short; decide
  rintro e w1 ⟨er, rfl, he, b1⟩
  have HER : Hid ((er = 0 ∧ AccOk l) ∨ (er = 100 ∧ ¬ AccOk l)) := by
    rcases he with ⟨h1, h2⟩ | ⟨h1, h2⟩
    · exact .inl ⟨h1, h2.2.2.2.2⟩
    · exact .inr ⟨h1, fun h => h2 ⟨rfl, rfl, parts_one _ _ _ _ main_ok, classes_one _ _ _ normal_ok, h⟩⟩
  have HB := Lib.hid (hbAB.trans (b1.mono hbAB.size))
  clear he b1 hbAB hr1 hr2 hA hB hbA hbB hwA hwB hsz
  go_wp2_with fail
  go_ret
  exact ⟨er, rfl, HER.out, HB.out⟩
end

section
open Go Go.RowKit Go.Lib
def OwnOk (l : List AcT) (own : List Int) : Prop := own.length = l.length ∧ ∀ x ∈ own, 0 ≤ x
def ShCode (l : List AcT) (own : List Int) (er : Int) : Prop := (er = 0 ∧ AccOk l ∧ OwnOk l own) ∨ (er = 100 ∧ ¬ AccOk l) ∨ (er = 2 ∧ AccOk l ∧ ¬ OwnOk l own)
def ShPost (l : List AcT) (own : List Int) (w : World) (e : Ending) (w' : World) : Prop := ∃ er : Int, e = .returned (.int .i64 er) ∧ ShCode l own er ∧ Below w.heap.size w w'
theorem ShCode.det {l : List AcT} {own : List Int} {a b : Int} (h : ShCode l own a) (h' : ShCode l own b) : a = b := by
  rcases h with ⟨rfl, h1, h2⟩ | ⟨rfl, h1⟩ | ⟨rfl, h1, h2⟩ <;> rcases h' with ⟨rfl, h3, h4⟩ | ⟨rfl, h3⟩ | ⟨rfl, h3, h4⟩ <;> first | rfl | exact absurd h1 h3 | exact absurd h3 h1 | exact absurd h2 h4 | exact absurd h4 h2
def negV : Value := .func (.func 33) #[] #[]
theorem neg_any (n : Int) (w : World) : Calls Tryd.prog 33 #[.int .i64 n] w fun e w' => e = .returned (.bool (decide (n < 0))) ∧ w' = w := by
  obtain ⟨r, hr⟩ : ∃ r, r = decide (n < 0) := ⟨_, rfl⟩
  have h := hr.symm
  rw [← hr]
  clear hr
  go_enter Tryd.func33, Tryd.ntmps33
  go_wp2_with fail
  go_ret
  exact ⟨by first | rfl | rw [h], rfl⟩
/-- The first negative one; -1: there is none. -/
def NegAt (l : List Int) (r : Int) : Prop := (r = -1 ∧ ∀ x ∈ l, 0 ≤ x) ∨ (0 ≤ r ∧ ∃ x ∈ l, x < 0)
set_option maxHeartbeats 2000000 in
theorem idxNeg_any (v : Value) (l : List Int) (w : World) (hn : l.length ≤ 1048576) (h : GRow w v l) :
    Calls Tryd.prog 46 #[v, negV] w fun e w' => ∃ r : Int, e = .returned (.int .i64 r) ∧ NegAt l r ∧ w' = w := by
  have NG : Hid (∀ n w, Calls Tryd.prog 33 #[.int .i64 n] w fun e w' => e = .returned (.bool (decide (n < 0))) ∧ w' = w) := neg_any
  rcases h with ⟨rfl, a, c, rfl⟩ | ⟨b, off, c, rfl, hc⟩
  · go_enter Tryd.func46, Tryd.ntmps46
    go_wp2_with fail
    refine wp_loop_rounds 1 ?_
    rw [rounds_succ]
    go_wp2_with fail
    go_ret
    exact ⟨-1, rfl, .inl ⟨rfl, by simp⟩, rfl⟩
  · have HC := Lib.hid hc
    unfold negV
    clear hc
    go_enter Tryd.func46, Tryd.ntmps46
    go_wp2_with fail
    go_loop [8] (fun i => ∃ k : Nat, k ≤ l.length ∧ i = .int .i64 k ∧ Hid (∀ j, j < k → 0 ≤ l.getD j 0)) (fun i => l.length - (RowKit.intOf i).toNat)
    case atStart => exact ⟨0, Nat.zero_le _, rfl, fun j hj => by omega⟩
    case round =>
      obtain ⟨k, hk, rfl, HK⟩ := hrel
      by_cases hlt : k < l.length
      · have hd : decide (k < l.length) = true := decide_eq_true hlt
        have hki : (k : Int) < (l.length : Int) := by omega
        have c0 := HC.out k hlt
        have HM : Hid (l.getD k 0 ∈ l) := by unfold Hid; rw [List.getD_eq_getElem?_getD, List.getElem?_eq_getElem hlt]; exact List.getElem_mem hlt
        obtain ⟨x, hx⟩ : ∃ x, x = l.getD k 0 := ⟨_, rfl⟩
        have HX := Lib.hid hx
        rw [← hx] at c0 HM
        obtain ⟨r, hr⟩ : ∃ r, r = decide (x < 0) := ⟨_, rfl⟩
        have HR := Lib.hid hr
        clear hx hr
        go_wp2_with fail
        refine (NG.out _ _).mono ?_; rintro e w1 ⟨rfl, hw⟩; replace hw := hw.symm; subst hw
        rw [← HR.out]
        cases r with
        | false =>
          have HN : Hid (∀ j, j < k + 1 → 0 ≤ l.getD j 0) := fun j hj => by
            rcases (by omega : j < k ∨ j = k) with h1 | rfl
            · exact HK.out j h1
            · rw [← HX.out]; have := of_decide_eq_false HR.out.symm; omega
          go_wp2_with fail
          go_round
          case rel => exact ⟨k + 1, hlt, by go_num, HN⟩
          case measure => simp [RowKit.intOf]; omega
        | true =>
          have HN : Hid (∃ x ∈ l, x < 0) := ⟨x, HM.out, of_decide_eq_true HR.out.symm⟩
          go_wp2_with fail
          go_ret
          exact ⟨k, rfl, .inr ⟨by omega, HN.out⟩, rfl⟩
      · have hd : decide (k < l.length) = false := decide_eq_false hlt
        have hki : ¬ (k : Int) < (l.length : Int) := by omega
        have HN : Hid (∀ x ∈ l, 0 ≤ x) := fun x hx => by
          obtain ⟨j, hj, rfl⟩ := List.getElem_of_mem hx
          have := HK.out j (by omega)
          rw [List.getD_eq_getElem?_getD, List.getElem?_eq_getElem hj] at this
          exact this
        clear hlt hk
        go_wp2_with fail
        go_ret
        exact ⟨-1, rfl, .inl ⟨rfl, HN.out⟩, rfl⟩
theorem hasNeg_any (v : Value) (l : List Int) (w : World) (hn : l.length ≤ 1048576) (h : GRow w v l) :
    Calls Tryd.prog 34 #[v, negV] w fun e w' => ∃ r : Bool, e = .returned (.bool r) ∧ (r = true ↔ ∃ x ∈ l, x < 0) ∧ w' = w := by
  have HI := Lib.hid (idxNeg_any v l w hn h)
  clear h
  unfold negV at *
  go_enter Tryd.func34, Tryd.ntmps34
  go_wp2_with fail
  refine HI.out.mono ?_; rintro e w1 ⟨r, rfl, hr, rfl⟩
  have HR := Lib.hid hr
  clear hr
  go_wp2_with fail
  go_ret
  refine ⟨_, rfl, ?_, rfl⟩
  rw [decide_eq_true_eq]
  rcases HR.out with ⟨h1, h2⟩ | ⟨h1, h2⟩
  · exact ⟨fun h => by omega, fun ⟨x, hx, h3⟩ => by have := h2 x hx; omega⟩
  · exact ⟨fun _ => h2, fun _ => h1⟩
set_option maxRecDepth 100000 in
set_option maxHeartbeats 4000000 in
theorem shCheck_any (v vo : Value) (l : List AcT) (own : List Int) (w : World) (hv : AcRow w v l) (hs : ∀ p ∈ l, Short p.1 ∧ Short p.2.1) (hT : U8W w) (ho : GRow w vo own) (hn : own.length ≤ 1048576) :
    Calls Tryd.prog 23 #[v, vo] w fun e w' => ShPost l own w e w' := by
  have CA := Lib.hid (checkAccounts_any v l w hv hs hT)
  obtain ⟨va, vc, rfl⟩ := hv.slice
  obtain ⟨oa, oc, rfl⟩ := ho.slice
  have HO := Lib.hid ho
  have HN := Lib.hid hn
  obtain ⟨LN, hLN⟩ : ∃ L, L = l.length := ⟨_, rfl⟩
  obtain ⟨LO, hLO⟩ : ∃ L, L = own.length := ⟨_, rfl⟩
  rw [← hLN] at CA ⊢
  rw [← hLO] at HO ⊢
  have HLN := Lib.hid hLN
  have HLO := Lib.hid hLO
  clear hv hs hT ho hn hLN hLO
  go_enter Tryd.func23, Tryd.ntmps23
  go_wp2_with fail
  refine CA.out.mono ?_; rintro e w1 ⟨er, rfl, he, b1⟩
  have HB1 := Lib.hid b1
  rcases he with ⟨rfl, he⟩ | ⟨rfl, he⟩
  · have HA := Lib.hid he
    clear he b1 CA
    by_cases hl : LO = LN
    · have t1 : decide (LO = LN) = true := decide_eq_true hl
      have t2 : (LO != LN) = false := by simp [hl]
      have t3 : (LO == LN) = true := by simp [hl]
      subst hl
      have CT := Lib.hid (hasNeg_any (.slice oa LO oc) own w1 HN.out (HO.out.kept HB1.out))
      unfold negV at CT
      go_wp2_with fail
      refine CT.out.mono ?_; rintro e w2 ⟨r, rfl, hr, hw⟩; replace hw := hw.symm; subst hw
      have HR := Lib.hid hr
      clear hr CT
      cases r with
      | false =>
        have HY : Hid (OwnOk l own) := ⟨by rw [← HLO.out, ← HLN.out], fun x hx => by
          rcases Int.lt_or_le x 0 with h1 | h1
          · have := HR.out.2 ⟨x, hx, h1⟩; cases this
          · exact h1⟩
        go_wp2_with fail
        go_ret
        exact ⟨0, rfl, .inl ⟨rfl, HA.out, HY.out⟩, HB1.out⟩
      | true =>
        have HY : Hid (¬ OwnOk l own) := fun h => by
          obtain ⟨x, hx, h1⟩ : ∃ x ∈ own, x < 0 := by simpa using HR.out
          have := h.2 x hx; omega
        go_wp2_with fail
        go_ret
        exact ⟨2, rfl, .inr (.inr ⟨rfl, HA.out, HY.out⟩), HB1.out⟩
    · have t1 : decide (LO = LN) = false := decide_eq_false hl
      have t2 : (LO != LN) = true := by simp [hl]
      have t3 : (LO == LN) = false := by simp [hl]
      have HY : Hid (¬ OwnOk l own) := fun h => hl (by rw [HLO.out, HLN.out]; exact h.1)
      go_wp2_with fail
      go_ret
      exact ⟨2, rfl, .inr (.inr ⟨rfl, HA.out, HY.out⟩), HB1.out⟩
  · have HA := Lib.hid he
    clear he b1 CA
    go_wp2_with fail
    go_ret
    exact ⟨100, rfl, .inr (.inl ⟨rfl, HA.out⟩), HB1.out⟩
end

section
open Go Go.RowKit Go.Lib
set_option maxRecDepth 100000 in
set_option maxHeartbeats 4000000 in
theorem refShCheck_any (v vo : Value) (l : List AcT) (own : List Int) (w : World) (hv : AcRow w v l) (hs : ∀ p ∈ l, Short p.1 ∧ Short p.2.1) (ho : GRow w vo own) (hn : own.length ≤ 1048576) :
    Calls Tryd.prog 27 #[v, vo] w fun e w' => ShPost l own w e w' := by
  obtain ⟨va, vc, rfl⟩ := hv.slice
  obtain ⟨oa, oc, rfl⟩ := ho.slice
  have HV := Lib.hid hv
  have HS := Lib.hid hs
  have HO := Lib.hid ho
  have HN := Lib.hid hn
  obtain ⟨LN, hLN⟩ : ∃ L, L = l.length := ⟨_, rfl⟩
  obtain ⟨LO, hLO⟩ : ∃ L, L = own.length := ⟨_, rfl⟩
  rw [← hLN] at HV ⊢
  rw [← hLO] at HO ⊢
  have HLN := Lib.hid hLN
  have HLO := Lib.hid hLO
  have hLOb : LO ≤ 1048576 := by rw [hLO]; exact hn
  obtain ⟨g, hg⟩ : ∃ g, g = w.heap.size := ⟨_, rfl⟩
  obtain ⟨w1, hw1⟩ : ∃ w1, w1 = w.alloc (.cells #[.int .i64 2, .int .i64 9, .int .i64 9, .int .i64 0, .int .i64 0, .int .i64 0, .int .i64 0, .int .i64 0, .int .i64 0, .slice none 0 0, .slice none 0 0, .slice va LN vc] 65) := ⟨_, rfl⟩
  have hE1 : Blk w1 g #[.int .i64 2, .int .i64 9, .int .i64 9, .int .i64 0, .int .i64 0, .int .i64 0, .int .i64 0, .int .i64 0, .int .i64 0, .slice none 0 0, .slice none 0 0, .slice va LN vc] 65 := by rw [hw1, hg]; exact Blk.new _ _ _
  have hB1 : Below w.heap.size w w1 := by rw [hw1]; exact (Below.refl _ _).alloc (Nat.le_refl _) _
  have HG0 : Hid (w.heap.size ≤ g) := by unfold Hid; rw [hg]; exact Nat.le_refl _
  have HE1 := Lib.hid hE1
  have HB1 := Lib.hid hB1
  clear hv hs ho hn hLN hLO hE1 hB1
  go_enter Tryd.func27, Tryd.ntmps27
  go_upto_region 2 with fail
  rw [← hw1, ← hg]
  clear hw1 hg
  obtain ⟨gP, hgP⟩ : ∃ gP, gP = w1.heap.size := ⟨_, rfl⟩
  obtain ⟨w2, hw2⟩ : ∃ w2, w2 = w1.alloc (.cells #[.string ⟨#[112]⟩, .int .i64 0, .int .i64 0, .int .i64 9] 67) := ⟨_, rfl⟩
  have hP2 : Blk w2 gP #[.string ⟨#[112]⟩, .int .i64 0, .int .i64 0, .int .i64 9] 67 := by rw [hw2, hgP]; exact Blk.new _ _ _
  have hE2 : Blk w2 g #[.int .i64 2, .int .i64 9, .int .i64 9, .int .i64 0, .int .i64 0, .int .i64 0, .int .i64 0, .int .i64 0, .int .i64 0, .slice none 0 0, .slice none 0 0, .slice va LN vc] 65 := by rw [hw2]; exact HE1.out.old _
  have hB2 : Below w.heap.size w w2 := by rw [hw2]; exact HB1.out.alloc HB1.out.size _
  have f9 := hE2.free 9
  have c9 := hE2.cell 9
  simp at c9
  have HP2 := Lib.hid hP2
  have HE2 := Lib.hid hE2
  have HB2 := Lib.hid hB2
  rw [hw2] at f9 c9
  clear hP2 hE2 hB2
  go_upto_region 3 with fail
  rw [← hw2, ← hgP]
  clear hw2 f9 c9
  have HgP : Hid (g ≠ gP) := by unfold Hid; rw [hgP]; have := HE1.out.lt; omega
  have hgP' : w.heap.size ≤ gP := by rw [hgP]; exact HB1.out.size
  have HGP := Lib.hid hgP'
  obtain ⟨w3, hw3⟩ : ∃ w3, w3 = w2.setCell ⟨g, 9, none⟩ (.slice (some ⟨gP, 0, none⟩) 1 1) := ⟨_, rfl⟩
  rw [← hw3]
  have HE3 : Hid (Blk w3 g #[.int .i64 2, .int .i64 9, .int .i64 9, .int .i64 0, .int .i64 0, .int .i64 0, .int .i64 0, .int .i64 0, .int .i64 0, .slice (some ⟨gP, 0, none⟩) 1 1, .slice none 0 0, .slice va LN vc] 65) := by unfold Hid; rw [hw3]; exact HE2.out.set 9 _
  have HP3 : Hid (Blk w3 gP #[.string ⟨#[112]⟩, .int .i64 0, .int .i64 0, .int .i64 9] 67) := by unfold Hid; rw [hw3]; exact HP2.out.other (fun e => HgP.out e.symm) _
  have HB3 : Hid (Below w.heap.size w w3) := by unfold Hid; rw [hw3]; exact HB2.out.setCell HG0.out _
  clear hw3 HE2 HP2 HB2 hgP hgP' HE1 HB1
  obtain ⟨gQ, hgQ⟩ : ∃ gQ, gQ = w3.heap.size := ⟨_, rfl⟩
  obtain ⟨w4, hw4⟩ : ∃ w4, w4 = w3.alloc (.cells #[.string ⟨#[113]⟩, .int .i64 0, .int .i64 9] 69) := ⟨_, rfl⟩
  have HQ4 : Hid (Blk w4 gQ #[.string ⟨#[113]⟩, .int .i64 0, .int .i64 9] 69) := by unfold Hid; rw [hw4, hgQ]; exact Blk.new _ _ _
  have HE4 : Hid (Blk w4 g #[.int .i64 2, .int .i64 9, .int .i64 9, .int .i64 0, .int .i64 0, .int .i64 0, .int .i64 0, .int .i64 0, .int .i64 0, .slice (some ⟨gP, 0, none⟩) 1 1, .slice none 0 0, .slice va LN vc] 65) := by unfold Hid; rw [hw4]; exact HE3.out.old _
  have HP4 : Hid (Blk w4 gP #[.string ⟨#[112]⟩, .int .i64 0, .int .i64 0, .int .i64 9] 67) := by unfold Hid; rw [hw4]; exact HP3.out.old _
  have HB4 : Hid (Below w.heap.size w w4) := by unfold Hid; rw [hw4]; exact HB3.out.alloc HB3.out.size _
  have HgQ : Hid (g ≠ gQ) := by unfold Hid; rw [hgQ]; have := HE3.out.lt; omega
  have f10 := HE4.out.free 10
  have c10 := HE4.out.cell 10
  simp at c10
  rw [hw4] at f10 c10
  go_upto_region 4 with fail
  rw [← hw4, ← hgQ]
  clear hw4 f10 c10 hgQ
  obtain ⟨w5, hw5⟩ : ∃ w5, w5 = w4.setCell ⟨g, 10, none⟩ (.slice (some ⟨gQ, 0, none⟩) 1 1) := ⟨_, rfl⟩
  rw [← hw5]
  have HE5 : Hid (Blk w5 g #[.int .i64 2, .int .i64 9, .int .i64 9, .int .i64 0, .int .i64 0, .int .i64 0, .int .i64 0, .int .i64 0, .int .i64 0, .slice (some ⟨gP, 0, none⟩) 1 1, .slice (some ⟨gQ, 0, none⟩) 1 1, .slice va LN vc] 65) := by unfold Hid; rw [hw5]; exact HE4.out.set 10 _
  have HP5 : Hid (Blk w5 gP #[.string ⟨#[112]⟩, .int .i64 0, .int .i64 0, .int .i64 9] 67) := by unfold Hid; rw [hw5]; exact HP4.out.other (fun e => HgP.out e.symm) _
  have HQ5 : Hid (Blk w5 gQ #[.string ⟨#[113]⟩, .int .i64 0, .int .i64 9] 69) := by unfold Hid; rw [hw5]; exact HQ4.out.other (fun e => HgQ.out e.symm) _
  have HB5 : Hid (Below w.heap.size w w5) := by unfold Hid; rw [hw5]; exact HB4.out.setCell HG0.out _
  clear hw5 HE4 HP4 HB4 HQ4 HE3 HP3 HB3
  have hr1 : PRow w5 (.slice (some ⟨gP, 0, none⟩) 1 1) [(⟨#[112]⟩, 0, 0, 9)] := rowG_one HP5.out fun j u hu => by simpa [encP] using hu
  have hr2 : QRow w5 (.slice (some ⟨gQ, 0, none⟩) 1 1) [(⟨#[113]⟩, 0, 9)] := rowG_one HQ5.out fun j u hu => by simpa [encQ] using hu
  have CC := Lib.hid (refConf_any 2 9 9 0 0 0 0 0 0 (.slice (some ⟨gP, 0, none⟩) 1 1) (.slice (some ⟨gQ, 0, none⟩) 1 1) (.slice va LN vc) _ _ l w5 hr1 hr2 (HV.out.kept HB5.out) (fun x hx => by rw [List.mem_singleton] at hx; subst hx; unfold Short; decide) (fun x hx => by rw [List.mem_singleton] at hx; subst hx; unfold Short; decide) HS.out)
  unfold confV at CC
  have e0 := HE5.out.cell 0
  have e1 := HE5.out.cell 1
  have e2 := HE5.out.cell 2
  have e3 := HE5.out.cell 3
  have e4 := HE5.out.cell 4
  have e5 := HE5.out.cell 5
  have e6 := HE5.out.cell 6
  have e7 := HE5.out.cell 7
  have e8 := HE5.out.cell 8
  have e9 := HE5.out.cell 9
  have e10 := HE5.out.cell 10
  have e11 := HE5.out.cell 11
  simp at e0 e1 e2 e3 e4 e5 e6 e7 e8 e9 e10 e11
  clear hr1 hr2
  go_wp2_with fail
  refine CC.out.mono ?_; rintro e w6 ⟨er, rfl, he, b6⟩
  have HB6 := Lib.hid (HB5.out.trans (b6.mono HB5.out.size))
  have HER : Hid ((er = 0 ∧ AccOk l) ∨ (er = 100 ∧ ¬ AccOk l)) := by
    rcases he with ⟨h1, h2⟩ | ⟨h1, h2⟩
    · exact .inl ⟨h1, h2.2.2.2.2⟩
    · exact .inr ⟨h1, fun h => h2 ⟨rfl, rfl, parts_one _ _ _ _ p_ok, classes_one _ _ _ q_ok, h⟩⟩
  clear he b6 CC e0 e1 e2 e3 e4 e5 e6 e7 e8 e9 e10 e11 HE5 HP5 HQ5 HB5
  rcases HER.out with ⟨rfl, he⟩ | ⟨rfl, he⟩
  · have HA := Lib.hid he
    clear he
    by_cases hl : LN = LO
    · have t1 : decide (LN = LO) = true := decide_eq_true hl
      have t2 : (LN != LO) = false := by simp [hl]
      have t3 : (LN == LO) = true := by simp [hl]
      subst hl
      have HO6 : Hid (GRow w6 (.slice oa LN oc) own) := HO.out.kept HB6.out
      go_wp2_with fail
      go_loop [7] (fun i => ∃ k : Nat, k ≤ LN ∧ i = .int .i64 k ∧ Hid (∀ j, j < k → 0 ≤ own.getD j 0)) (fun i => LN - (RowKit.intOf i).toNat)
      case atStart => exact ⟨0, Nat.zero_le _, rfl, fun j hj => by omega⟩
      case round =>
        obtain ⟨k, hk, rfl, HK⟩ := hrel
        by_cases hlt : k < LN
        · have hd : decide (k < LN) = true := decide_eq_true hlt
          have hki : (k : Int) < (LN : Int) := by omega
          obtain ⟨b, off, hoa, c0⟩ : ∃ b off, oa = some ⟨b, off, none⟩ ∧ w6.cell? ⟨b, off + k, none⟩ = some (.int .i64 (own.getD k 0)) := by
            rcases HO6.out with ⟨h1, a, c, h2⟩ | ⟨b, off, c, h1, h2⟩
            · rw [h1] at HLO; have := HLO.out; simp at this; omega
            · injection h1 with h1; exact ⟨b, off, h1, h2 k (by rw [← HLO.out]; exact hlt)⟩
          subst hoa
          have HM : Hid (own.getD k 0 ∈ own) := by
            have h1 : k < own.length := by rw [← HLO.out]; exact hlt
            unfold Hid; rw [List.getD_eq_getElem?_getD, List.getElem?_eq_getElem h1]; exact List.getElem_mem h1
          obtain ⟨x, hx⟩ : ∃ x, x = own.getD k 0 := ⟨_, rfl⟩
          have HX := Lib.hid hx
          rw [← hx] at c0 HM
          clear hx
          by_cases hneg : x < 0
          · have n1 : decide (x < 0) = true := decide_eq_true hneg
            have HY : Hid (¬ OwnOk l own) := fun h => by have := h.2 x HM.out; omega
            go_wp2_with fail
            go_ret
            exact ⟨2, rfl, .inr (.inr ⟨rfl, HA.out, HY.out⟩), HB6.out⟩
          · have n1 : decide (x < 0) = false := decide_eq_false hneg
            have HN2 : Hid (∀ j, j < k + 1 → 0 ≤ own.getD j 0) := fun j hj => by
              rcases (by omega : j < k ∨ j = k) with h1 | rfl
              · exact HK.out j h1
              · rw [← HX.out]; omega
            go_wp2_with fail
            go_round
            case rel => exact ⟨k + 1, hlt, by go_num, HN2⟩
            case measure => simp [RowKit.intOf]; omega
        · have hd : decide (k < LN) = false := decide_eq_false hlt
          have hki : ¬ (k : Int) < (LN : Int) := by omega
          have HY : Hid (OwnOk l own) := ⟨by rw [← HLO.out, ← HLN.out], fun x hx => by
            obtain ⟨j, hj, rfl⟩ := List.getElem_of_mem hx
            have := HK.out j (by rw [← HLO.out] at hj; omega)
            rw [List.getD_eq_getElem?_getD, List.getElem?_eq_getElem hj] at this
            exact this⟩
          clear hlt hk
          go_wp2_with fail
          go_ret
          exact ⟨0, rfl, .inl ⟨rfl, HA.out, HY.out⟩, HB6.out⟩
    · have t1 : decide (LN = LO) = false := decide_eq_false hl
      have t2 : (LN != LO) = true := by simp [hl]
      have t3 : (LN == LO) = false := by simp [hl]
      have HY : Hid (¬ OwnOk l own) := fun h => hl (by rw [HLO.out, HLN.out]; exact h.1.symm)
      go_wp2_with fail
      go_ret
      exact ⟨2, rfl, .inr (.inr ⟨rfl, HA.out, HY.out⟩), HB6.out⟩
  · have HA := Lib.hid he
    clear he
    go_wp2_with fail
    go_ret
    exact ⟨100, rfl, .inr (.inl ⟨rfl, HA.out⟩), HB6.out⟩
end

end Go.Proofs.YtbnlmeegepgioaaDoor
