/-
  What Fail and Heal say of a worker that is failed, or is not; a cell of a row of the law's own.
  A yard that is not there: what each call says.
  An array of 32 counters in a block of its own.
-/
import Derived.Test.YtcdlfhheolbhaaaYeW
import Derived.Test.YtcdlfhheolbhaaaYfP
namespace Go.Proofs.Ytcdlfhheolbhaaa
set_option linter.unusedVariables false

section
open Go Go.RowKit Go.Lib
theorem fail_twice {n x : Nat} {fl fl' : List Nat} {er : Int} (h : FailR n fl (x : Int) er fl') (hx : x < 2 ^ n) (hm : x ∈ fl) : er = 30 ∧ fl' = fl := by
  generalize hq : (x : Int) = q at h
  cases h with
  | arg h => exact absurd ⟨by omega, by omega⟩ h
  | twice y hy _ _ => exact ⟨rfl, rfl⟩
  | ok y hy _ hn =>
    obtain rfl : x = y := by omega
    exact absurd hm hn
theorem heal_ok {n x : Nat} {fl fl' : List Nat} {er : Int} (h : HealR n fl (x : Int) er fl') (hx : x < 2 ^ n) (hm : x ∈ fl) : er = 0 ∧ fl' = remF fl x := by
  generalize hq : (x : Int) = q at h
  cases h with
  | arg h => exact absurd ⟨by omega, by omega⟩ h
  | none y hy _ hn =>
    obtain rfl : x = y := by omega
    exact absurd hm hn
  | ok y hy _ hn =>
    obtain rfl : x = y := by omega
    exact ⟨rfl, rfl⟩
theorem heal_none {n x : Nat} {fl fl' : List Nat} {er : Int} (h : HealR n fl (x : Int) er fl') (hx : x < 2 ^ n) (hm : x ∉ fl) : er = 4 ∧ fl' = fl := by
  generalize hq : (x : Int) = q at h
  cases h with
  | arg h => exact absurd ⟨by omega, by omega⟩ h
  | none y hy _ hn => exact ⟨rfl, rfl⟩
  | ok y hy _ hn =>
    obtain rfl : x = y := by omega
    exact absurd hn hm
theorem own_cell {w : World} {sc N q j base : Nat} {D : List Nat} (h : w.ownsRow base 3 1 (.slice (some ⟨q, 0, none⟩) N sc) N (natL D)) (hj : j < D.length) : w.cell? ⟨q, j, none⟩ = some (.int .i64 ((D.getD j 0 : Nat) : Int)) := by
  have h1 := h.cells (g := q) rfl j (.int .i64 ((D.getD j 0 : Nat) : Int)) (by
    have := numsL_get (l := natI D) (i := j) (by rw [natI_len]; exact hj)
    rw [natI_at hj] at this
    rw [this, List.getD_eq_getElem?_getD, List.getElem?_eq_getElem hj]; rfl)
  rw [Addr.add_lit, Nat.zero_add] at h1
  exact h1
theorem own_addr {w : World} {sc N base : Nat} {sa : Option Addr} {D : List Nat} (h : w.ownsRow base 3 1 (.slice sa N sc) N (natL D)) (hN : 0 < N) : ∃ q, sa = some ⟨q, 0, none⟩ := by
  rcases h.2 with ⟨e, h0⟩ | ⟨q, cap, cur, e, _⟩
  · omega
  · exact ⟨q, by injection e⟩
theorem i64_n (n : Nat) (h : n ≤ 9223372036854775807) : IntKind.i64.wrap (n : Int) = (n : Int) := by rw [IntKind.wrap_i64]; omega
theorem u64_n (n : Nat) (h : n ≤ 9223372036854775807) : IntKind.u64.wrap (n : Int) = (n : Int) := by rw [IntKind.wrap_u64]; omega
theorem pick_mod (x : Int) (n : Nat) (h : 0 < n) (hn : n ≤ 1000000) : ∃ U K : Nat, IntKind.u64.wrap x = (U : Int) ∧ (U : Int) % (n : Int) = (K : Int) ∧ K < n ∧ (U : Int).tmod (n : Int) = (K : Int) := by
  obtain ⟨U, hU⟩ := Int.eq_ofNat_of_zero_le (show 0 ≤ IntKind.u64.wrap x by rw [IntKind.wrap_u64]; omega)
  have e : (U : Int) % (n : Int) = ((U % n : Nat) : Int) := by simp
  refine ⟨U, U % n, hU, e, Nat.mod_lt _ h, ?_⟩
  rw [Int.tmod_eq_emod_of_nonneg (by omega), e]
/-- One shifted to the left, at an order that is a letter. -/
theorem one_shl {o : Nat} (h : o ≤ 10) : ∃ P : Nat, P = 2 ^ o ∧ 1 ≤ P ∧ P ≤ 1024 ∧ IntKind.i64.wrap ((2 : Int) ^ o) = (P : Int) := by
  have h2 := pow_1024 h
  have h1 := two_pos o
  refine ⟨2 ^ o, rfl, h1, h2, ?_⟩
  have e : ((2 : Int) ^ o) = ((2 ^ o : Nat) : Int) := by simp
  rw [e, IntKind.wrap_i64]; omega
theorem pick6 (x : Int) : ∃ U K : Nat, IntKind.u64.wrap x = (U : Int) ∧ (U : Int) % 6 = (K : Int) ∧ K < 6 ∧ (U : Int).tmod 6 = (K : Int) := by
  obtain ⟨U, K, h1, h2, h3, h4⟩ := pick_mod x 6 (by omega) (by omega)
  exact ⟨U, K, h1, h2, h3, h4⟩

/-! Take, beside the first free block of the least order that is enough. -/
theorem take_best {n o : Nat} {tk tk' : List Bk} {fl : List Nat} {q r er b : Int} (hq : (o : Int) = q) (h : TakeR n tk fl q r er tk') (ho : o ≤ n) (hB : BestR (freeL n (opn n tk fl)) o (freeL n (opn n tk fl)).length b) :
    (b = -1 ∧ r = 0 ∧ er = 5 ∧ ¬ fitsB n (opn n tk fl) q) ∨ ∃ m s : Nat, b = (m : Int) ∧ m < (freeL n (opn n tk fl)).length ∧ (∃ k, (freeL n (opn n tk fl))[m]? = some (s, k)) ∧ r = (s : Int) ∧ er = 0 ∧ tk' = insT tk (s, o) ∧ fitsB n (opn n tk fl) q := by
  cases h with
  | arg h => exact absurd ⟨by omega, by omega⟩ h
  | full o' hq' ho' hf =>
    obtain rfl : o = o' := by omega
    refine .inl ⟨hB.none_of hf, rfl, rfl, ?_⟩
    rintro ⟨o2, k, h1, h2, h3, h4⟩
    obtain rfl : o = o2 := by omega
    exact h4 (hf k h2 h3)
  | ok o' k s rr hq' hok hk hj hs =>
    obtain rfl : o = o' := by omega
    obtain ⟨m, hm, rfl, e⟩ := hB.ok hok hj hs
    exact .inr ⟨m, s, rfl, hm, ⟨k, by rw [List.getElem?_eq_getElem hm, e]⟩, rfl, rfl, rfl, ⟨o, k, hq.symm, hok, hk, by rw [hs]; simp⟩⟩
theorem held_taken {n s o : Nat} {tk : List Bk} {fl : List Nat} {b : Bk} {f : Bool} (hY : OkY n tk fl) (hm : (s, o) ∈ tk) (h : HeldR tk (s : Int) b f) : b = (s, o) ∧ f = true := by
  cases h with
  | no h =>
    have := h _ hm
    rw [(inI_nat (s, o) s).2 (inB_self o s)] at this; cases this
  | yes b hb hx => exact ⟨srt_start hY.srt hb hm ((inI_nat b s).1 hx) (inB_self o s), rfl⟩
theorem take_some {n : Nat} {tk tk' : List Bk} {fl : List Nat} {q r er : Int} (hq : q = 0) (h : TakeR n tk fl q r er tk') (hc : 0 < (opensL n (opn n tk fl)).length) :
    ∃ (kk s : Nat) (rr : List Nat), frL n (opn n tk fl) kk = s :: rr ∧ r = (s : Int) ∧ er = 0 ∧ tk' = insT tk (s, 0) ∧ (opensL n (opn n tk' fl)).length + 1 = (opensL n (opn n tk fl)).length := by
  cases h with
  | arg h => exact absurd ⟨by omega, by omega⟩ h
  | full o' hq' ho' hf =>
    obtain rfl : o' = 0 := by omega
    exact absurd hf (opens_some hc)
  | ok o' k s rr hq' hok hk hj hs =>
    obtain rfl : o' = 0 := by omega
    have hF : isF n (opn n tk fl) k s := frL_mem.1 (by rw [hs]; simp)
    obtain ⟨t1, t2, t3, t4⟩ := isF_begin hF hok
    refine ⟨k, s, rr, hs, rfl, rfl, rfl, ?_⟩
    rw [opn_take (b := (s, 0)) t4]
    exact opens_less (by simp at t3; omega) (t4 s (inB_self 0 s))
theorem take_none {n : Nat} {tk tk' : List Bk} {fl : List Nat} {q r er : Int} (hq : q = 0) (h : TakeR n tk fl q r er tk') (hc : (opensL n (opn n tk fl)).length = 0) : r = 0 ∧ er = 5 ∧ tk' = tk := by
  cases h with
  | arg h => exact absurd ⟨by omega, by omega⟩ h
  | full o' hq' ho' hf => exact ⟨rfl, rfl, rfl⟩
  | ok o' k s rr hq' hok hk hj hs =>
    rw [opens_frL hc] at hs; cases hs
theorem no_fits {n : Nat} {op : Opn} (hc : (opensL n op).length = 0) (q : Int) : ¬ fitsB n op q := by
  rintro ⟨o, k, _, _, _, h4⟩
  exact h4 (opens_frL hc k)
theorem sumB_take {F : List Bk} {k : Nat} (h : k < F.length) : sumB (F.take (k + 1)) = sumB (F.take k) + 2 ^ (F[k]).2 := by
  rw [List.take_add_one, List.getElem?_eq_getElem h]; exact sumB_snoc _ _
end

section
open Go Go.RowKit Go.Lib
theorem Order_nil (w : World) : Calls Try.prog 14 #[.pointer none] w fun e w' => e = .returned (.int .i64 0) ∧ w' = w := by
  go_enter Try.func14, Try.ntmps14
  go_wp2_with fail
  go_ret
  exact ⟨rfl, rfl⟩
theorem Take_nil (q : Int) (w : World) : Calls Try.prog 32 #[.pointer none, .int .i64 q] w fun e w' => e = .returned (.tuple #[.int .i64 0, .int .i64 1]) ∧ Below w.heap.size w w' := by
  go_enter Try.func32, Try.ntmps32
  go_wp2_with fail
  go_returns
  exact ⟨rfl, by first | exact Below.refl _ _ | go_grown⟩
theorem TakeAt_nil (S O : Int) (w : World) : Calls Try.prog 36 #[.pointer none, .agg #[.int .i64 S, .int .i64 O]] w fun e w' => e = .returned (.int .i64 1) ∧ Below w.heap.size w w' := by
  go_enter Try.func36, Try.ntmps36
  go_wp2_with fail
  go_returns
  exact ⟨rfl, by first | exact Below.refl _ _ | go_grown⟩
theorem Give_nil (q : Int) (w : World) : Calls Try.prog 33 #[.pointer none, .int .i64 q] w fun e w' => e = .returned (.int .i64 1) ∧ Below w.heap.size w w' := by
  go_enter Try.func33, Try.ntmps33
  go_wp2_with fail
  go_returns
  exact ⟨rfl, by first | exact Below.refl _ _ | go_grown⟩
theorem Fail_nil (q : Int) (w : World) : Calls Try.prog 34 #[.pointer none, .int .i64 q] w fun e w' => e = .returned (.int .i64 1) ∧ Below w.heap.size w w' := by
  go_enter Try.func34, Try.ntmps34
  go_wp2_with fail
  go_returns
  exact ⟨rfl, by first | exact Below.refl _ _ | go_grown⟩
theorem Heal_nil (q : Int) (w : World) : Calls Try.prog 35 #[.pointer none, .int .i64 q] w fun e w' => e = .returned (.int .i64 1) ∧ Below w.heap.size w w' := by
  go_enter Try.func35, Try.ntmps35
  go_wp2_with fail
  go_returns
  exact ⟨rfl, by first | exact Below.refl _ _ | go_grown⟩
theorem Held_nil (q : Int) (w : World) : Calls Try.prog 25 #[.pointer none, .int .i64 q] w fun e w' => e = .returned (.tuple #[.agg #[.int .i64 0, .int .i64 0], .bool false]) ∧ Below w.heap.size w w' := by
  go_enter Try.func25, Try.ntmps25
  go_wp2_with fail
  go_returns
  exact ⟨rfl, by first | exact Below.refl _ _ | go_grown⟩
theorem Failed_nil (w : World) : Calls Try.prog 19 #[.pointer none] w fun e w' => e = .returned (.slice none 0 0) ∧ Below w.heap.size w w' := by
  go_enter Try.func19, Try.ntmps19
  go_wp2_with fail
  go_returns
  exact ⟨rfl, by first | exact Below.refl _ _ | go_grown⟩
theorem Free_nil (w : World) : Calls Try.prog 17 #[.pointer none] w fun e w' => e = .returned (.slice none 0 0) ∧ Below w.heap.size w w' := by
  go_enter Try.func17, Try.ntmps17
  go_wp2_with fail
  go_returns
  exact ⟨rfl, by first | exact Below.refl _ _ | go_grown⟩
theorem Taken_nil (w : World) : Calls Try.prog 18 #[.pointer none] w fun e w' => e = .returned (.slice none 0 0) ∧ Below w.heap.size w w' := by
  go_enter Try.func18, Try.ntmps18
  go_wp2_with fail
  go_returns
  exact ⟨rfl, by first | exact Below.refl _ _ | go_grown⟩
theorem Fits_nil (q : Int) (w : World) : Calls Try.prog 27 #[.pointer none, .int .i64 q] w fun e w' => e = .returned (.bool false) ∧ Below w.heap.size w w' := by
  go_enter Try.func27, Try.ntmps27
  go_wp2_with fail
  go_returns
  exact ⟨rfl, by first | exact Below.refl _ _ | go_grown⟩
theorem Would_nil (q : Int) (v : Value) (w : World) : Calls Try.prog 29 #[.pointer none, .int .i64 q, v] w fun e w' => e = .returned (.bool false) ∧ Below w.heap.size w w' := by
  go_enter Try.func29, Try.ntmps29
  go_wp2_with fail
  go_returns
  exact ⟨rfl, by first | exact Below.refl _ _ | go_grown⟩

/-! A block whose workers are all free lies in a free block. -/
theorem in_free {n o s : Nat} {op : Opn} (ho : o ≤ n) (hs : s % 2 ^ o = 0) (hb : s + 2 ^ o ≤ 2 ^ n) : allB op o s ↔ ∃ b ∈ freeL n op, b.1 ≤ s ∧ s + 2 ^ o ≤ b.1 + 2 ^ b.2 := by
  constructor
  · intro h
    obtain ⟨o', s', h1, h2, h3⟩ := isF_around (n := n) (n - o) (by omega) hs hb h
    obtain ⟨h4, h5⟩ := nest h1 hs h2.2.1 (inB_self o s) (h3 s (inB_self o s))
    exact ⟨(s', o'), freeL_mem.2 h2, h4, h5⟩
  · rintro ⟨b, hb, h1, h2⟩ x ⟨h3, h4⟩
    exact (freeL_mem.1 hb).2.2.2.1 x ⟨by omega, by omega⟩
def insideB (F : List Bk) (s o : Nat) : Bool := F.any fun b => decide (b.1 ≤ s ∧ s + 2 ^ o ≤ b.1 + 2 ^ b.2)
theorem insideB_take {F : List Bk} {s o k : Nat} (h : k < F.length) : insideB (F.take (k + 1)) s o = (insideB (F.take k) s o || decide ((F[k]).1 ≤ s ∧ s + 2 ^ o ≤ (F[k]).1 + 2 ^ (F[k]).2)) := by
  have e : F.take (k + 1) = F.take k ++ [F[k]] := by rw [List.take_add_one, List.getElem?_eq_getElem h]; rfl
  rw [e]
  unfold insideB
  rw [List.any_append, List.any_cons, List.any_nil, Bool.or_false]
theorem insideB_free {n o s : Nat} {op : Opn} (ho : o ≤ n) (hs : s % 2 ^ o = 0) (hb : s + 2 ^ o ≤ 2 ^ n) : insideB (freeL n op) s o = true ↔ allB op o s := by
  rw [in_free ho hs hb]
  unfold insideB
  rw [List.any_eq_true]
  exact ⟨fun ⟨b, h1, h2⟩ => ⟨b, h1, of_decide_eq_true h2⟩, fun ⟨b, h1, h2⟩ => ⟨b, h1, decide_eq_true h2⟩⟩

/-! Two yards. -/
theorem YI.over {w w' : World} {b n : Nat} {own own' : Nat → Prop} {op : Opn} {tk : List Bk} {fl : List Nat} (h : YI w b own n op tk fl) (hb : Below w.heap.size w w') (h1 : ∀ k, k < w.heap.size → own k → own' k) (h2 : ∀ k, w'.heap.size ≤ k → own' k) : YI w' b own' n op tk fl := by
  obtain ⟨cs, q1, q2, q3⟩ := h
  have k3 := q1.kept hb
  refine ⟨cs, ⟨k3.blk, k3.sz, h1 b q1.blk.lt q1.bown, h2, k3.row, fun j u g j1 j2 hu hub => ?_, k3.apart⟩, q2, q3⟩
  obtain ⟨u', m, hu', ho⟩ := q1.row j j1 j2
  rw [hu] at hu'; cases hu'
  exact ⟨h1 g (ho.lt g hub).2 (q1.ob j u g j1 j2 hu hub).1, (q1.ob j u g j1 j2 hu hub).2⟩
theorem YS.over {w w' : World} {b n : Nat} {own own' : Nat → Prop} {tk : List Bk} {fl : List Nat} (h : YS w b own n tk fl) (hb : Below w.heap.size w w') (h1 : ∀ k, k < w.heap.size → own k → own' k) (h2 : ∀ k, w'.heap.size ≤ k → own' k) : YS w' b own' n tk fl := ⟨h.1, h.2.over hb h1 h2⟩
theorem YI.stays {w w' : World} {b n : Nat} {own own' : Nat → Prop} {op : Opn} {tk : List Bk} {fl : List Nat} (h : YI w b own n op tk fl) (hc : Chg own' w w') (ho : ∀ k, k < w.heap.size → own k → ¬ own' k) (hn : ∀ k, w'.heap.size ≤ k → own k) : YI w' b own n op tk fl := by
  obtain ⟨cs, q1, q2, q3⟩ := h
  refine ⟨cs, ⟨?_, q1.sz, q1.bown, hn, fun j j1 j2 => ?_, q1.ob, q1.apart⟩, q2, q3⟩
  · have := q1.blk
    unfold Blk at *
    rw [hc.block b q1.blk.lt (ho b q1.blk.lt q1.bown)]; exact this
  · obtain ⟨u, m, hu, hw⟩ := q1.row j j1 j2
    refine ⟨u, m, hu, hw.1, ?_⟩
    rcases hw.2 with e | ⟨g, cap, cur, e, hb, hg, rest⟩
    · exact .inl e
    · have hgl := (Array.getElem?_eq_some_iff.1 hg).1
      exact .inr ⟨g, cap, cur, e, hb, by rw [hc.block g hgl (ho g hgl (q1.ob j u g j1 j2 hu (by rw [e]; rfl)).1)]; exact hg, rest⟩
end

section
open Go Go.RowKit Go.Lib
def Cnt (w : World) (b : Nat) (f : Nat → Nat) : Prop := ∃ cs, Blk w b cs 52 ∧ cs.size = 32 ∧ ∀ x, x < 32 → cs[x]? = some (.int .i64 ((f x : Nat) : Int))
theorem Cnt.cell {w : World} {b x : Nat} {f : Nat → Nat} (h : Cnt w b f) (hx : x < 32) : w.cell? ⟨b, x, none⟩ = some (.int .i64 ((f x : Nat) : Int)) := by
  obtain ⟨cs, h1, h2, h3⟩ := h
  rw [h1.cell]; exact h3 x hx
theorem Cnt.free {w : World} {b x : Nat} {f : Nat → Nat} (h : Cnt w b f) : w.frozen? ⟨b, x, none⟩ = false := by
  obtain ⟨cs, h1, h2, h3⟩ := h
  exact h1.frees x
theorem Cnt.lt {w : World} {b : Nat} {f : Nat → Nat} (h : Cnt w b f) : b < w.heap.size := by
  obtain ⟨cs, h1, _⟩ := h
  exact h1.lt
theorem Cnt.set {w : World} {b x m : Nat} {f : Nat → Nat} (h : Cnt w b f) (hx : x < 32) : Cnt (w.setCell ⟨b, x, none⟩ (.int .i64 (m : Int))) b (fun y => if y = x then m else f y) := by
  obtain ⟨cs, h1, h2, h3⟩ := h
  refine ⟨_, h1.set x _, by simp [h2], fun y hy => ?_⟩
  by_cases e : y = x
  · subst e
    rw [Array.getElem?_setIfInBounds_self_of_lt (by omega)]; simp
  · rw [Array.getElem?_setIfInBounds_ne (fun q => e q.symm)]; simpa [e] using h3 y hy
theorem Cnt.congr {w : World} {b : Nat} {f g : Nat → Nat} (h : Cnt w b f) (e : f = g) : Cnt w b g := e ▸ h
theorem Cnt.kept {w w' : World} {b : Nat} {f : Nat → Nat} (h : Cnt w b f) (hb : Below w.heap.size w w') : Cnt w' b f := by
  obtain ⟨cs, h1, h2, h3⟩ := h
  exact ⟨cs, h1.kept hb, h2, h3⟩
/-- The stores into one block. -/
abbrev One (b : Nat) : Nat → Prop := fun k => k = b
theorem own_one {w w' : World} {base size n b : Nat} {e : TypeId} {v : Value} {xs : List Value} (h : w.ownsRow base e size v n xs) (hc : Chg (One b) w w') (hv : v.ownBlock ≠ some b) : w'.ownsRow base e size v n xs :=
  own_chg h hc fun k hk e => hv (by rw [hk]; exact congrArg some e)
theorem Cnt.zero {w : World} {b : Nat} (h : Blk w b #[.int .i64 0, .int .i64 0, .int .i64 0, .int .i64 0, .int .i64 0, .int .i64 0, .int .i64 0, .int .i64 0, .int .i64 0, .int .i64 0, .int .i64 0, .int .i64 0, .int .i64 0, .int .i64 0, .int .i64 0, .int .i64 0, .int .i64 0, .int .i64 0, .int .i64 0, .int .i64 0, .int .i64 0, .int .i64 0, .int .i64 0, .int .i64 0, .int .i64 0, .int .i64 0, .int .i64 0, .int .i64 0, .int .i64 0, .int .i64 0, .int .i64 0, .int .i64 0] 52) : Cnt w b (fun _ => 0) := by
  refine ⟨_, h, rfl, fun x hx => ?_⟩
  have e : (#[.int .i64 0, .int .i64 0, .int .i64 0, .int .i64 0, .int .i64 0, .int .i64 0, .int .i64 0, .int .i64 0, .int .i64 0, .int .i64 0, .int .i64 0, .int .i64 0, .int .i64 0, .int .i64 0, .int .i64 0, .int .i64 0, .int .i64 0, .int .i64 0, .int .i64 0, .int .i64 0, .int .i64 0, .int .i64 0, .int .i64 0, .int .i64 0, .int .i64 0, .int .i64 0, .int .i64 0, .int .i64 0, .int .i64 0, .int .i64 0, .int .i64 0, .int .i64 0] : Array Value) = Array.replicate 32 (.int .i64 0) := rfl
  rw [e, Array.getElem?_replicate, if_pos hx]; rfl
theorem Cnt.other {w : World} {b g o : Nat} {f : Nat → Nat} (h : Cnt w b f) (hb : b ≠ g) (v : Value) : Cnt (w.setCell ⟨g, o, none⟩ v) b f := by
  obtain ⟨cs, h1, h2, h3⟩ := h
  exact ⟨cs, h1.other hb v, h2, h3⟩
theorem Chg.newCell {own : Nat → Prop} {w w' : World} {g : Nat} (h : Chg own w w') (hg : w.heap.size ≤ g) (o : Nat) (v : Value) : Chg own w (w'.setCell ⟨g, o, none⟩ v) :=
  ⟨h.os, h.tape, h.output, Nat.le_trans h.size (KeepsWalks.setCell w' _ v).size, fun k hk hn => by
    rw [Below.heap_setCell _ _ _ k (by show k ≠ g; omega)]; exact h.block k hk hn⟩
theorem Chg.more {own : Nat → Prop} {a b c : World} (h1 : Chg own a b) (h2 : Below b.heap.size b c) : Chg own a c := h1.trans (Chg.of_below h2)
theorem xor_bud_i {o s P : Nat} (ho : o ≤ 10) (h : s < 4096) (hs : s % 2 ^ o = 0) (hP : P = 2 ^ o) : bits .xor .i64 (s : Int) (P : Int) = (bud o s : Nat) := by rw [hP]; exact i64_xor_bud ho h hs
theorem app_get {F tk : List Bk} {k : Nat} (h : k < (F ++ tk).length) : (k < F.length ∧ ∃ hk : k < F.length, (F ++ tk)[k] = F[k]) ∨ (F.length ≤ k ∧ ∃ hk : k - F.length < tk.length, (F ++ tk)[k] = tk[k - F.length]) := by
  rw [List.length_append] at h
  by_cases hk : k < F.length
  · exact .inl ⟨hk, hk, List.getElem_append_left hk⟩
  · exact .inr ⟨by omega, by omega, List.getElem_append_right (by omega)⟩
end

end Go.Proofs.Ytcdlfhheolbhaaa
