/-
  RankTops: rank.Top finds the first keys of which the function says so, in the row's order, as many as were asked for, and asks no more than it must: so the law returns true for every input.
-/
import Derived.Test.YtpgiladbljnpcaaKeyArgs
import Derived.Test.YtpgiladbljnpcaaTop
import Derived.Test.YtpgiladbljnpcaaRows
import Derived.Test.YtpgiladbljnpcaaArgs2
namespace Go.Proofs.Ytpgiladbljnpcaa.rankTops
open Go.ChangeShapes Go.WideShapes Go.ChangeAt Go.RowKit
set_option linter.unusedVariables false

theorem own : ownKnob Try.prog.godebug = none := by kernel_rfl

open Go.ChangeShapes Go.WideShapes Go.ChangeAt Go.RowKit Go.Lib Go.Sort
theorem long (a : Option Addr) (m c : Nat) (n mark : Int) (w : World) (h : 300 < m) (hm : m ≤ maxLen) :
    Calls Try.prog 9 #[.slice a m c, .int .i64 n, .int .u32 mark] w fun e w' => e = .returned (.bool true) ∧ Below w.heap.size w w' := by
  have HM : Hid (∀ w, Calls Try.prog 13 #[.slice a m c, .slice none 0 0] w fun e w' => e = .returned (.bool true) ∧ Below w.heap.size w w') := fun w => by
    have := many_any a none m c 0 0 w (by unfold maxLen at hm; omega) (by omega)
    rw [decide_eq_true h] at this; exact this
  clear h hm
  go_enter Try.func9, Try.ntmps9
  go_wp2_with fail
  refine (HM.out _).mono ?_; rintro e w1 ⟨rfl, b1⟩
  go_wp2_with fail
  refine (known3_any _).mono ?_; rintro e w2 ⟨rfl, b2⟩
  go_wp2_with fail
  go_ret
  exact ⟨rfl, below_next b2 (below_next b1 ((Below.refl _ _).alloc (Nat.le_refl _) _))⟩

set_option maxRecDepth 100000 in
set_option maxHeartbeats 2000000 in
theorem short (a : Option Addr) (c : Nat) (xs : List Key) (n mark : Int) (w : World) (hk : KRow w (.slice a xs.length c) xs) (hok : ∀ x ∈ xs, KeyOk x) (h : ¬ 300 < xs.length) (hI : I64' n) (hmk : 0 ≤ mark ∧ mark ≤ 4294967295) :
    Calls Try.prog 9 #[.slice a xs.length c, .int .i64 n, .int .u32 mark] w fun e w' => e = .returned (.bool true) ∧ Below w.heap.size w w' := by
  obtain ⟨i0, hi, hz0, hz1, hz2⟩ := info_parts Try.infoKey
  have hn : xs.length ≤ 1048576 := by omega
  have hmf : ∀ (fn : Fn) (first cap : Array Value) (w : World), (Instr.makeFunc fn first cap).run Try.prog w = .ok (.func fn first cap) w := fun _ _ _ _ => rfl
  have hids : ∀ x ∈ xs, 0 ≤ x.2.2 ∧ x.2.2 ≤ 4294967295 := fun x hx => by
    have := (hok x hx).2.2
    simpa [Lit.wf, IntKind.min, IntKind.max, IntKind.bits, IntKind.signed] using this
  have HM : Hid (∀ w, Calls Try.prog 13 #[.slice a xs.length c, .slice none 0 0] w fun e w' => e = .returned (.bool false) ∧ Below w.heap.size w w') := fun w => by
    have := many_any a none xs.length c 0 0 w (by omega) (by omega)
    rw [decide_eq_false h] at this; exact this
  have HT : Hid (∀ A M w1, Below w.heap.size w w1 → w.heap.size ≤ A → M ≠ A → Blk w1 A #[.int .i64 0] 3 → Blk w1 M #[.int .u32 mark] 22 →
      Calls Try.prog 30 #[.slice a xs.length c, .int .i64 n, .func (.func 31) #[] #[.pointer (some ⟨A, 0, none⟩), .pointer (some ⟨M, 0, none⟩)]] w1 fun e w' => TopPost w1 A mark n xs e w') := by
    intro A M w1 hb hA hMA h1 h2
    rcases hk.kept hb with ⟨el, a', c', hv, _⟩ | ⟨b, off, c', hv, h0, _, _, hc⟩
    · injection hv with e1 e2 e3
      subst el e1 e3
      exact top_nil _ _ n mark A M w1 h1
    · injection hv with e1 e2 e3
      subst e1 e3
      have hbw : b < w.heap.size := by
        rcases hk with ⟨el, _⟩ | ⟨b2, off2, c2, hv2, _, _, _, hc2⟩
        · rw [el] at h0; simp at h0
        · injection hv2 with e1 _ _; injection e1 with e1; injection e1 with e1 _; rw [e1]; exact hc2.1
      exact top_row b off c xs n mark A M w1 hn h0 hI hc (by omega) hMA h1 h2 hids hmk
  have HK := Lib.hid hk
  have HN := Lib.hid hn
  have HS : Hid (∀ j, j < xs.length → mayL mark xs (j + 1) = mayL mark xs j ++ if mayB mark (at_ xs j) then [at_ xs j] else []) := mayL_snoc mark xs
  have HLe : Hid (∀ j, (mayL mark xs j).length ≤ j) := mayL_len mark xs
  have HMB : Hid (∀ k : Key, mayB mark k = (k.2.2 % 4 != mark % 4)) := fun _ => rfl
  have HI : Hid (∀ j, j < xs.length → 0 ≤ (at_ xs j).2.2 ∧ (at_ xs j).2.2 ≤ 4294967295) := fun j hj => hids _ (List.mem_of_getElem? (at_get hj))
  unfold I64' at hI
  obtain ⟨hI1, hI2⟩ := hI
  obtain ⟨hk0, hk1⟩ := hmk
  clear hk hok h hids
  go_enter Try.func9, Try.ntmps9
  go_wp2_with fail
  refine (HM.out _).mono ?_; rintro e w1 ⟨rfl, b1⟩
  have XM := Lib.hid ((Blk.new w #[.int .u32 mark] 22).kept b1)
  have B1 := Lib.hid (below_next b1 ((Below.refl w.heap.size w).alloc (Nat.le_refl _) _))
  have hm1 : w.heap.size < w1.heap.size := XM.out.lt
  clear b1
  go_wp2_with fail
  refine (HT.out w1.heap.size w.heap.size (w1.alloc (.cells #[.int .i64 0] 3)) (B1.out.alloc B1.out.size _) (by omega) (by omega) (Blk.new _ _ _) (XM.out.old _)).mono ?_
  rintro e w3 ⟨va, J, rfl, hst, hka, hba, hg3⟩
  have B3 : Hid (Below w.heap.size w w3) := (B1.out.alloc B1.out.size _).grown hg3 (by simp; omega) (fun k hk => by injection hk with hk; omega)
  have X3 : Hid (Blk w3 w.heap.size #[.int .u32 mark] 22) := Blk.grown (XM.out.old _) hg3 (fun e => by injection e with e; omega)
  have HST := Lib.hid hst
  have HKA := Lib.hid hka
  have HBA := Lib.hid hba
  clear hst hka hba hg3 HT HM XM B1
  have hFin : Hid (∀ (j : Nat) (vb : Value) (wr : World), Below w3.heap.size w3 wr → stops mark n xs j → KRow wr vb (mayL mark xs j) → j = J ∧ Calls Try.prog 19 #[va, vb] wr fun e w' => e = .returned (.bool true) ∧ Below wr.heap.size wr w') := by
    intro j vb wr hb hs hkb
    have e := stops_eq hs HST.out
    subst e
    have hl : (mayL mark xs j).length ≤ 1048576 := Nat.le_trans (HLe.out j) (Nat.le_trans hs.1 HN.out)
    have := same_any va vb _ _ wr hl hl (HKA.out.kept hb) hkb
    rw [decide_eq_true rfl] at this
    exact ⟨rfl, this⟩
  go_wp2_with fail
  go_loopw [9, 10] (fun o i wr => ∃ j : Nat, j ≤ xs.length ∧ i = .int .i64 j ∧ (∀ i, i < j → ((mayL mark xs i).length : Int) < n) ∧ wr.ownsRow w3.heap.size 24 3 o (mayL mark xs j).length (flatL (mayL mark xs j)) ∧ Below w3.heap.size w3 wr) (fun _ i _ => xs.length - (intOf i).toNat)
  case atStart => exact ⟨0, Nat.zero_le _, rfl, fun j hj => absurd hj (Nat.not_lt_zero _), World.ownsRow_nil _ _ _ _, Below.refl _ _⟩
  case round =>
    obtain ⟨j, hj, rfl, he0, hown, hB⟩ := hrel
    have HE := Lib.hid he0
    have HO := Lib.hid hown
    have HB := Lib.hid hB
    obtain ⟨S, cp, rfl⟩ : ∃ S cp, u9 = .slice S (mayL mark xs j).length cp := by
      obtain ⟨_, ⟨hv, hn0⟩ | ⟨g, cap, cur, hv, _⟩⟩ := hown
      · exact ⟨none, 0, by rw [hn0]; exact hv⟩
      · exact ⟨_, cap, hv⟩
    have hle := HLe.out j
    have hzr : w3.heap.size ≤ wr.heap.size := HB.out.size
    clear he0 hown hB
    by_cases hgo : j < xs.length ∧ ((mayL mark xs j).length : Int) < n
    · obtain ⟨hlt, hln⟩ := hgo
      have hlt' : decide (j < xs.length) = true := decide_eq_true hlt
      have hlt2 : (j : Int) < xs.length := by omega
      have hln' : decide ((((mayL mark xs j).length : Nat) : Int) < n) = true := decide_eq_true hln
      have HE1 : Hid (∀ i, i < j + 1 → ((mayL mark xs i).length : Int) < n) := fun i hi => by
        rcases Nat.lt_succ_iff_lt_or_eq.1 hi with h | rfl
        · exact HE.out i h
        · exact hln
      have HS1 := Lib.hid (HS.out j hlt)
      have HM1 := Lib.hid (HMB.out (at_ xs j))
      obtain ⟨x0', x1'⟩ := HI.out j hlt
      have m0 := (X3.out.kept HB.out).cell 0; simp at m0
      rcases HK.out.kept (below_next HB.out B3.out) with ⟨el, _⟩ | ⟨b, off, c', hv, h0, _, _, hc⟩
      · exfalso; rw [el] at hlt; simp at hlt
      injection hv with e1 e2 e3
      subst e1 e3
      clear e2
      obtain ⟨c0, c1, c2⟩ := hc.2 j hlt
      change wr.cell? _ = some (Value.int .i64 (at_ xs j).1) at c0
      change wr.cell? _ = some (Value.int .i64 (at_ xs j).2.1) at c1
      change wr.cell? _ = some (Value.int .u32 (at_ xs j).2.2) at c2
      clear hc
      obtain ⟨x, hx⟩ : ∃ x, x = at_ xs j := ⟨_, rfl⟩
      rw [← hx] at c0 c1 c2 HS1 HM1 x0' x1'
      clear hx
      cases hq : (x.2.2 % 4 != mark % 4)
      · have HS2 : Hid (mayL mark xs (j + 1) = mayL mark xs j) := by
          have := HS1.out; rw [HM1.out, hq] at this; simp at this; exact this
        generalize mayL mark xs j = ml at *
        go_wp2_with fail
        go_quiet (fail)
        go_wp2_with fail
        go_roundw
        case rel => exact ⟨j + 1, hlt, by go_num, HE1.out, by rw [HS2.out]; exact owns_below HO.out (below_drewN (Below.refl _ _) _), below_drewN HB.out _⟩
        case measure => simp [intOf]; omega
      · have HS2 : Hid (mayL mark xs (j + 1) = mayL mark xs j ++ [x]) := by
          have := HS1.out; rw [HM1.out, hq] at this; simp at this; exact this
        generalize mayL mark xs j = ml at *
        go_wp2_with fail
        go_quiet (fail)
        have HO9 := Lib.hid (owns_below HO.out (below_drewN (Below.refl _ wr) nq))
        have HB9 := Lib.hid (below_drewN HB.out nq)
        go_wp2_with (at_builtin; refine wpList_append_own _ rfl _ _ 28 rfl w3.heap.size 24 i0 _ 3 24 Try.underlying28 hi hz0 hz1 hz2 rfl (by decide) _ ml.length _ rfl (World.ownsRow.alloc HO9.out _) ⟨wr.heap.size, 0, none⟩ 1 1 (encK x) rfl rfl (news_key (x := x) (Blk.fresh _ _ _ _ rfl)) (encK_one x) (by unfold maxLen; omega) (by omega) (by simp; omega) ?_; intro v4 w4 hown4 hgrow4 _)
        go_roundw
        case rel =>
          have hl1 : (ml ++ [x]).length = ml.length + 1 := by simp
          have e2 : flatL [x] = encK x := by simp [flatL]
          exact ⟨j + 1, hlt, by go_num, HE1.out, by rw [HS2.out, hl1, flatL_append, e2]; exact hown4, (HB9.out.alloc HB9.out.size _).grown hgrow4 (by simp; omega) (fun i hi' => (HO9.out.lt i hi').1)⟩
        case measure => simp [intOf]; omega
    · have hst : stops mark n xs j := ⟨hj, HE.out, by
        by_cases h1 : j < xs.length
        · exact .inr (by have := fun h2 => hgo ⟨h1, h2⟩; omega)
        · exact .inl (by omega)⟩
      obtain ⟨eJ, hS⟩ := hFin.out j _ wr HB.out hst (krow_of_owns HO.out)
      have HSa := Lib.hid hS
      subst eJ
      have j0 := (HBA.out.kept HB.out).cell 0; simp at j0
      have qj : ((j : Int) == (j : Int)) = true := by simp
      have HFj := Lib.hid (fun w' (hb : Below wr.heap.size wr w') => (((HBA.out.kept HB.out).kept hb).cell 0))
      clear hS hst hFin
      by_cases hlt : j < xs.length
      · have hlt' : decide (j < xs.length) = true := decide_eq_true hlt
        have hlt2 : (j : Int) < xs.length := by omega
        have hln' : decide ((((mayL mark xs j).length : Nat) : Int) < n) = false := decide_eq_false (fun h2 => hgo ⟨hlt, h2⟩)
        clear hgo
        generalize mayL mark xs j = ml at *
        go_wp2_with fail
        refine HSa.out.mono ?_; rintro e w5 ⟨rfl, b5⟩
        have j5 := HFj.out _ b5; simp at j5
        go_wp2_with fail
        refine (known3_any _).mono ?_; rintro e w6 ⟨rfl, b6⟩
        go_wp2_with fail
        go_ret
        exact ⟨rfl, below_next b6 (below_next b5 (below_next HB.out B3.out))⟩
      · have hlt' : decide (j < xs.length) = false := decide_eq_false hlt
        have hlt2 : decide ((j : Int) < xs.length) = false := decide_eq_false (by omega)
        clear hgo
        generalize mayL mark xs j = ml at *
        go_wp2_with fail
        refine HSa.out.mono ?_; rintro e w5 ⟨rfl, b5⟩
        have j5 := HFj.out _ b5; simp at j5
        go_wp2_with fail
        refine (known3_any _).mono ?_; rintro e w6 ⟨rfl, b6⟩
        go_wp2_with fail
        go_ret
        exact ⟨rfl, below_next b6 (below_next b5 (below_next HB.out B3.out))⟩

theorem walk (v : Value) (xs : List Key) (n mark : Int) (w : World) (w0 : KArg w v xs) (w1 : (Lit.int .i64 n).wf = true) (w2 : (Lit.int .u32 mark).wf = true) :
    Calls Try.prog 9 #[v, .int .i64 n, .int .u32 mark] w fun e w' => e = .returned (.bool true) ∧ Below w.heap.size w w' := by
  obtain ⟨hk, ⟨a, c, rfl⟩, hm, hok⟩ := w0
  by_cases h : 300 < xs.length
  · exact long a _ c n mark w h hm
  · exact short a c xs n mark w hk hok h (wf_i64' w1) (by simpa [Lit.wf, IntKind.min, IntKind.max, IntKind.bits, IntKind.signed] using w2)

set_option maxRecDepth 100000 in
theorem lifted (os : Os) (started : os.Started) (H : Type) (enc : TypeId × Value → H) :
    ReturnsInHanded {} Try.checked os 9 .any (Rows.rankTopsSpec.pre6 enc Try.prog Try.f9 Rows.rankTopsRow.domain false) (Rows.rankTopsSpec.post enc Try.prog Try.f9 false true false false) := by
  refine returnsInHanded_of_change (C := Try.checked) own started (by kernel_rfl) Try.func9
    (ChangeSpec.witness6 (enc := enc) (C := Try.checked) false ⟨#[], #[.slice none 0 0, .int .i64 0, .int .u32 0], []⟩ 8 (by kernel_rfl) (by kernel_rfl) (by kernel_rfl) (by kernel_rfl)) ?_
  intro W base args ds gs before hval0 hW _ _
  have hval : ∀ (j : Nat) t v, Try.f9.params[j]? = some t → args[j]? = some v → Value.okWide Try.prog W .any base t v := hval0
  have hW' := hW
  obtain ⟨p, q, hA0, hV, rfl, hfz, hnd⟩ := hW
  have hA : DataW.TrodAll enc Try.prog W 0 (fun _ => true) true Try.f9.params.toList args.toList ds p := hA0
  rw [Try.params9] at hA hval
  obtain ⟨v0, vs0, d0, ds0, p0, q0, hargs, rfl, rfl, h0, r0⟩ := trodAll_cons hA
  obtain ⟨v1, vs1, d1, ds1, p1, q1, rfl, rfl, rfl, h1, r1⟩ := trodAll_cons r0
  obtain ⟨v2, vs2, d2, ds2, p2, q2, rfl, rfl, rfl, h2, r2⟩ := trodAll_cons r1
  obtain ⟨rfl, rfl, rfl⟩ := trodAll_nil r2
  obtain rfl : args = #[v0, v1, v2] := by cases args; simp_all
  obtain ⟨l, w0⟩ := open_keys_arg h0 (okWide_slice Try.underlying28 (hval 0 28 v0 rfl rfl))
  obtain ⟨n, rfl, rfl, rfl, w1⟩ := open_int Try.underlying3 (hval 1 3 v1 rfl rfl) h1
  obtain ⟨mark, rfl, rfl, rfl, w2⟩ := open_int Try.underlying22 (hval 2 22 v2 rfl rfl) h2
  clear hA0 hval0
  refine (walk v0 l n mark W w0 w1 w2).mono fun e W' ⟨he, hb⟩ => ?_
  subst he
  exact ⟨_, rfl, law_post (by kernel_rfl) (by kernel_rfl) rfl Try.underlying4 rfl hW' rfl hb⟩

theorem over : Rows.rankTopsRow.holds Try.pinned (OpenSpec.ofChange Rows.rankTopsSpec) :=
  OpenClaim.holds_of_wide 9 Try.f9 rfl rfl rfl rfl rfl rfl rfl ⟨rfl, rfl, rfl, rfl, rfl⟩ rfl rfl rfl rfl rfl (by kernel_rfl) Try.func9 (by kernel_rfl)
    (of_decide_eq_true (by kernel_rfl)) (by unfold Func.isWrapper; first | (rw [if_pos (by decide +kernel)]; kernel_rfl) | (rw [if_neg (by decide +kernel)]; exact ⟨rfl, rfl⟩))
    (fun os started H enc _ => lifted os started H enc)

theorem proved : Rows.RankTopsSaid :=
  over
#print axioms proved
end Go.Proofs.Ytpgiladbljnpcaa.rankTops
